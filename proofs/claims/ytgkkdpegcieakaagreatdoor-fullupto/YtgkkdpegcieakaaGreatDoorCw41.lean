import Derived.Test.YtgkkdpegcieakaaGreatDoorCw39
import Derived.Test.YtgkkdpegcieakaaGreatDoorCw33
import Derived.Test.YtgkkdpegcieakaaGreatDoorCw40
set_option linter.all false
set_option maxRecDepth 100000
set_option maxHeartbeats 16000000
namespace Go.Proofs.YtgkkdpegcieakaaGreatDoor
open Go.Proofs.Tryz
open Value renaming int→Z,slice→J,string→H,pointer→WV
open Obj renaming cells→D
open Option renaming none→U,some→S
open Or renaming inl→Xa,inr→Xb
open _root_.Array renaming size→K
open World renaming heap→E
open IntKind renaming i64→Y
open Go renaming World→WR,Value→WS,Calls→WT
open Go.RowKit
namespace Ru
open Sp (Pg Ed Cfg)
open Rd (Rk e0)
open Pk (iV Sm fj TP dh cV de)
open Dk (Kept)
variable {W w:WR}
theorem Nv(j:∀b n,j5 w b n->j5 W b n)(u:K (E w)<=K (E W)){x:List UInt8}{e:WS}(h:Fn w (K (E w)) x e): Fn W (K (E W)) x e:=by
 rcases h with ⟨b,n,y,l,m,r⟩|h
 .exact Xa ⟨b,n,by omega,l,j b n m,r⟩
 .exact Xb h
theorem D2{g:Nat}{L:List (List UInt8)}(h:og w g L)(r:W.heap[g]?=w.heap[g]?)(u:∀b n,j5 w b n->j5 W b n)(y:K (E w)<=K (E W)): og W g L:=by
 have m:∀i,W.cell? ⟨g,i,U⟩=w.cell? ⟨g,i,U⟩:=λi=>Vs (w:=w) (a:=⟨g,i,U⟩) r
 refine⟨h.CP,?_,by have:=h.lt;omega,λi hi=>?_⟩
 .obtain⟨z,j,l⟩:=h.rd;exact⟨z,j,λi hi=>(m _).trans (l i hi)⟩
 .obtain⟨F,e,j,l⟩:=h.fn i hi;exact⟨F,e,(m _).trans j,Nv u y l⟩
variable {B:Nat}
theorem yg{o:Nat}{k:List UInt8}(h:mW w B o k)(e:W.heap[B]?=w.heap[B]?): mW W B o k:=by
 have b:∀i,W.cell? ⟨B,i,U⟩=w.cell? ⟨B,i,U⟩:=λi=>Vs (w:=w) (a:=⟨B,i,U⟩) e
 obtain⟨j,F,l,m,r,u⟩:=h;exact⟨j,F,(b _).trans l,(b _).trans m,(b _).trans r,u⟩
variable {hi lo:Nat}
theorem uN.keep{P:Pg}(h:uN lo hi w B P)(m:∀k,lo<=k->k<hi->W.heap[k]?=w.heap[k]?)(u:∀b n,j5 w b n->j5 W b n)(r:K (E w)<=K (E W)): uN lo hi W B P:=by
 have e:=m B h.bl.1 h.bl.2;refine⟨h.bl,Uc h.hl r,λi hi=>?_,yg h.pB e,yg h.al e⟩;obtain⟨g,j,l,y,z⟩:=h.code i hi;exact⟨g,j,l,(Vs (w:=w) (a:=⟨B,i*4,U⟩) e).trans y,D2 z (m g l.1 l.2) u r⟩
theorem uN.below{P:Pg}(h:uN lo hi w B P)(hb:WQ w W): uN lo hi W B P:=by
 refine h.keep (λk _ j=>hb.block k (by have:=h.hl;omega)) (λb n e=>?_) hb.size;exact(hb.block b (cV e)).trans e
theorem Mj.keep{pe:Option Addr}{n:Nat}{Es:List Ed}(h:Mj lo hi w pe n Es)(r:∀k,lo<=k->k<hi->W.heap[k]?=w.heap[k]?)(y:K (E w)<=K (E W)): Mj lo hi W pe n Es:=λi l=>by
 obtain⟨j,p,m,a,b,c,d,e⟩:=h i l;exact⟨j,p,m,a,b,(Vs (w:=w) (a:=⟨j,i,U⟩) (r j b.1 b.2)).trans c,gh.SY d (λq u _=>r q.block (e q u).1 (e q u).2) y,e⟩
theorem Hk{z f:Addr}(h:jY w z f)(b:∀k,(k=1\/k=2\/k=z.block\/k=f.block)->W.heap[k]?=w.heap[k]?): jY W z f:=by
 refine⟨(Vs (w:=w) (a:=⟨1,0,U⟩) (b _ (Xa O))).trans h.cz,(Vs (w:=w) (a:=⟨2,0,U⟩) (b _ (Xb (Xa O)))).trans h.cf,h.ne,?_,?_⟩
 .obtain⟨c,t,e⟩:=h.bz;exact⟨c,t,(b _ (Xb (Xb (Xa O)))).trans e⟩
 .obtain⟨c,t,e⟩:=h.bf;exact⟨c,t,(b _ (Xb (Xb (Xb O)))).trans e⟩
end Ru
namespace Ru
open Sp (Pg Ed Cfg)
open Rd (Rk e0)
open Pk (iV Sm fj TP dh cV de)
open Dk (Kept)
theorem JE{F hi G M:Nat}{w:WR}{j E l da n cX B:Nat}{Q R:Rk}{O:Nat->Prop}{v:WS}{T:Sn.Tb}{P:Pg}{Es:List Ed}{pe:Option Addr}{z f:Addr}(h:ou w j E l da n cX Q R O v T)(N:uN F hi w B P)(he:Mj G M w pe n Es)(y:jY w z f)(V:∀k,O k->k<F)(hS:∀k,qC l v k->hi<=k/\k<G)(h1:F<=hi)(h2:hi<=G)(h3:M<=w.heap.size)(I:∀k,(k=1\/k=2\/k=z.block\/k=f.block)->¬OO O l v k):∀W X x C,w.heap.size<=C->fj w (OR O l v C) W (OR X l x C)->jJ W B P/\jY W z f/\IG W pe n Es:=by
 intro W X x C s q;have u:∀k,k<w.heap.size->¬OO O l v k->W.heap[k]?=w.heap[k]?:=λk u p=>q.kept.block k u (λe=>by
  rcases e with e|e
  .exact p e
  .omega)
 have A:=q.kept.size;refine⟨(N.keep (λk o g=>u k (by have:=N.hl;omega) (λe=>?_)) (λb m hb=>?_) A).TC,Hk y (λk i=>u k ?_ (I k i)),(he.keep (λk o g=>u k (by omega) (λe=>?_)) A).eb (by omega)⟩
 .rcases e with e|e
  .have:=V k e;omega
  .have:=hS k e;omega
 .have r:w.heap[b]?=S (D #[Z Y m] 2 (0,0)):=hb;exact(u b (cV r) (je h r (by decide))).trans r
 .rcases i with rfl|rfl|rfl|rfl
  .exact y.lz
  .exact y.lf
  .obtain⟨c,t,L⟩:=y.bz;exact cV L
  .obtain⟨c,t,L⟩:=y.bf;exact cV L
 .rcases e with e|e
  .have:=V k e;omega
  .have:=hS k e;omega
end Ru
namespace Ru
open Classical
theorem IX{T:Sn.Tb}{dj:Nat}{x:Sn.Ce}(h:Sn.di (T++[(dj,x)])):∀y∈T++[(dj,x)],y.1<=dj:=λy b=>by
 rcases Uq.1 b with e|e
 .have:=(Wc.1 h).2.2 y e (dj,x) UI;simp[Sn.lt] at this;omega
 .rw[Uz.1 e];exact TY _
theorem Qa{F:WU->WU}{n da b:Nat}{a:WU}(h:Gf F n da a b):b<=4294967295:=by
 have j:=h.TD;have e:=gW (Sp.dx (F a)) 4 0;have l:num (Sp.dx (F a)) 0 4<4294967296:=e;omega
theorem KE{F:WU->WU}{n da:Nat}{L:List WU}:∀s∈fQ F n da L,s<=4294967295:=λs b=>by
 rw[pK] at b;obtain⟨a,_,e⟩:=List.mem_filterMap.1 b;exact Qa (ng e).2.Ta
end Ru
namespace Ru
open Sp (Pg Ed Cfg nH eY iO)
open Rd (Rk e0)
open Pk (Sm)
open Classical
def pd(g p:WU)(every keep cap:Int):Int:=if iN g p≠0 then iN g p else if ¬((1<=every/\every<=50)/\(1<=keep/\keep<=5)/\(0<=cap/\cap<=200)) then 8 else 0
variable {p g:WU}
theorem qQ{every keep cap:Int}(h:pd g p every keep cap=0): iN g p=0/\(1<=every/\every<=50)/\(1<=keep/\keep<=5)/\(0<=cap/\cap<=200):=by
 unfold pd at h;by_cases b:iN g p≠0
 .rw[T0 b] at h;exact absurd h b
 .rw[TZ b] at h;refine⟨by simpa using b,?_⟩;by_cases e:(1<=every/\every<=50)/\(1<=keep/\keep<=5)/\(0<=cap/\cap<=200)
  .exact e
  .rw[T0 e] at h;exact absurd h (by decide)
def oT(g p:WU)(cap:Nat)(Q:Rk):List Nat:=oj (fQ Q.rd (jx g).length (oJ g p cap) Q.fD)
def th(K:List Nat):Nat:=K.getLast?.getD 0
def Ac(g p:WU)(K:List Nat)(Q:Rk):Cfg:=if K=[] then Sp.fX (Sp.ik p) (jx g) else fp Q.rd (jx g).length (th K)
def oo(g p:WU)(every keep cap:Int)(Q:Rk):Nat:=if pd g p every keep cap≠0 then 0 else if Q.nD≠0 then 0 else th (oT g p cap.toNat Q)
def jd(g p:WU)(every keep cap:Int)(Q:Rk):Out:=if pd g p every keep cap≠0 then ⟨fG,0,pd g p every keep cap,Q⟩ else if Q.nD≠0 then ⟨fG,0,Q.nD,Q⟩
 else DJ (Sp.ik p) (pO g) cap.toNat every.toNat keep.toNat (oJ g p cap.toNat) (jx g).length (th (oT g p cap.toNat Q)) (Ac g p (oT g p cap.toNat Q) Q) ((oT g p cap.toNat Q).drop ((oT g p cap.toNat Q).length-keep.toNat)) Q
variable {Q:Rk}{cap:Nat}
theorem ze{every keep:Nat}{K:List Nat}(h:pd g p every keep cap=0)(b:Q.nD=0)(e:oT g p cap Q=K):jd g p every keep cap Q=DJ (Sp.ik p) (pO g) cap every keep (oJ g p cap) (jx g).length (th K) (Ac g p K Q) (K.drop (K.length-keep)) Q/\oo g p every keep cap Q=th K:=by
 unfold jd oo;rw[TZ (by rw[h];simp),TZ (by rw[b];simp),TZ (by rw[h];simp),TZ (by rw[b];simp)];simp only[Wa];rw[e];exact⟨O,O⟩
theorem FD(g p:WU)(cap:Nat):oJ g p cap<4294967296:=Sp.zw _
theorem vX(K:List Nat)(s:Nat):th (K++[s])=s:=by unfold th;simp
theorem Oe{K:List Nat}(h:K≠[]):∃b,K=b++[th K]:=by
 rcases Wk K with e|⟨b,s,e⟩
 .exact absurd e h
 .rw[Wl] at e;refine⟨b,?_⟩;subst e;rw[vX]
theorem Qf: ∀s∈oT g p cap Q,s<=4294967295:=λs b =>
 KE s ((tj (A:=fQ Q.rd (jx g).length (oJ g p cap) Q.fD) (l8 (xj Q)) s).1 b)
theorem Pr: th (oT g p cap Q)<=4294967295:=by
 by_cases h:oT g p cap Q=[]
 .rw[h];exact Ud _
 .obtain⟨e,b⟩:=Oe h;exact Qf _ (by rw[b];exact Vp _ (by rw[<-b];exact List.mem_singleton_self _))
theorem OI{K:List Nat}(b:eY (jx g).length (Sp.fX (Sp.ik p) (jx g))): eY (jx g).length (Ac g p K Q):=by
 unfold Ac;split
 .exact b
 .exact SI _ _ _ _
end Ru
namespace Ru
open Sp (Pg Ed Cfg nH eY iO quiet lI fh)
open Rd (Rk e0)
open Pk (Sm)
theorem LR{P:Pg}{Es:List Ed}{cap every keep da n dj b:Nat}(j:n<=64)(hb:1000<=b):∀(g s:Nat) (c:Cfg) (e:List Nat) (sv:Nat) (R:Rk) (nn:Nat),Sm R nn b->Sm (rz P Es cap every keep da n dj g s c e sv R).R (nn+8*g) b
 |0,s,c,e,sv,R,nn,h=>by rw[rz];exact h
 |g+1,s,c,e,sv,R,nn,h=>by
  have l:Sm R (nn+8*(g+1)) b:=h.mono (by omega) WN;have r:Sm (eh R (eK c n s da)).2 (nn+8) b:=(gB.save c n s da h j hb).all;have m:Sm (eh (eh R (eK c n s da)).2 (fx ((e++[s]).take (e.length+1-keep)))).2 (nn+8) b:=(gB.tH (λo u=>(tf _ o u).1) r).all;rw[rz];split
  .exact l
  .split
   .exact l
   .split
    .split
     .exact r.mono (by omega) WN
     .split
      .exact m.mono (by omega) WN
      .split
       .exact m.mono (by omega) WN
       .exact(LR j hb g _ _ _ _ _ _ m).mono (by omega) WN
    .split
     .exact l
     .exact(LR j hb g _ _ _ _ _ _ h).mono (by omega) WN
theorem Li{P:Pg}{Es:List Ed}{cap every keep da n dj:Nat}(r:iO P Es n)(j:cap<=200):∀(g s:Nat) (c:Cfg) (b:List Nat) (sv:Nat) (R:Rk),eY n c->(rz P Es cap every keep da n dj g s c b sv R).res.outcome<=3/\(rz P Es cap every keep da n dj g s c b sv R).res.dA.length<=n
 |0,s,c,b,sv,R,y=>by rw[rz];exact⟨Ud _,Ud _⟩
 |g+1,s,c,b,sv,R,y=>by
  have l:∀(x:Nat) (e:Int) (Q:Rk),(⟨fG,x,e,Q⟩:Out).res.outcome<=3/\(⟨fG,x,e,Q⟩:Out).res.dA.length<=n:=λ_ _ _=>⟨Ud _,Ud _⟩
  have u:=V5 y.lv;rw[rz];split
  .exact⟨by show (1:Nat)<=3;omega,u⟩
  .split
   .exact⟨by show (2:Nat)<=3;omega,u⟩
   .rename_i A;have z:∀a,lI P Es c s n=.ok a->eY n (fh P n a):=λa m=>Sp.rZ r (Sp.sI r lN y (by omega) n WN a m)
    split
    .split
     .exact l _ _ _
     .split
      .exact l _ _ _
      .split
       .exact⟨by show (3:Nat)<=3;omega,u⟩
       .rename_i a m;exact Li r j g _ _ _ _ _ (z a m)
    .split
     .exact⟨by show (3:Nat)<=3;omega,u⟩
     .rename_i a m;exact Li r j g _ _ _ _ _ (z a m)
variable {p g:WU}
theorem jm(h:iN g p=0): zH g=0/\(Sp.comp p).1=0:=by
 unfold iN at h;by_cases c:zH g≠0
 .rw[T0 c] at h;exact absurd h c
 .rw[TZ c] at h;exact⟨by simpa using c,h⟩
theorem Q7{every keep cap:Int}{R:Rk}{nn b:Nat}(h:Sm R nn b)(j:Small g)(hb:1000<=b): Sm (jd g p every keep cap R).R (nn+2000) b:=by
 have m:Sm R (nn+2000) b:=h.mono (by omega) WN;unfold jd;split
 .exact m
 .rename_i l;have l:pd g p every keep cap=0:=by simpa using l
  split
  .exact m
  .obtain⟨r,B,C,F⟩:=qQ l;obtain⟨u,y⟩:=jm r;have z:=(qE u y j).1;unfold DJ;have e:Sm (eh R (dR R.fD ((oT g p cap.toNat R).drop ((oT g p cap.toNat R).length-keep.toNat)))).2 nn b:=(gB.tH (λo A=>(pH _ _ o A).1) h).all;split
   .exact e.mono (by omega) WN
   .exact(LR z.It hb _ _ _ _ _ _ _ e).mono (by omega) WN
theorem yM{every keep cap:Int}{R:Rk}(j:Small g): (jd g p every keep cap R).res.outcome<=3/\(jd g p every keep cap R).res.dA.length<=64:=by
 have b:∀(x:Nat) (e:Int) (Q:Rk),(⟨fG,x,e,Q⟩:Out).res.outcome<=3/\(⟨fG,x,e,Q⟩:Out).res.dA.length<=64:=λ_ _ _=>⟨Ud _,Ud _⟩
 unfold jd;split
 .exact b _ _ _
 .rename_i l;have l:pd g p every keep cap=0:=by simpa using l
  split
  .exact b _ _ _
  .obtain⟨r,A,B,C⟩:=qQ l;obtain⟨u,y⟩:=jm r;obtain⟨m,z⟩:=qE u y j;unfold DJ;split
   .exact b _ _ _
   .have h:=Li (every:=every.toNat) (keep:=keep.toNat) (da:=oJ g p cap.toNat) (dj:=th (oT g p cap.toNat R)) m (show cap.toNat<=200 by omega) ((cap.toNat-th (oT g p cap.toNat R))+1) (th (oT g p cap.toNat R)) (Ac g p (oT g p cap.toNat R) R) ((oT g p cap.toNat R).drop ((oT g p cap.toNat R).length-keep.toNat)) 0 (eh R (dR R.fD ((oT g p cap.toNat R).drop ((oT g p cap.toNat R).length-keep.toNat)))).2 (OI (Sp.rE (Sp.ik p) (jx g) z));exact⟨h.1,Uc h.2 m.It⟩
end Ru
namespace Ru
open Sp (Pg Ed Cfg eY iO)
open Rd (Rk e0)
open Pk (iV Sm fj TP dh cV de)
open Dk (Kept)
def zD(g:WU)(j E:Nat)(R:Rk)(O:Nat->Prop)(out:Out)(dj:Nat)(w:WR)(e:Ending)(w':WR):Prop:=Small g/\(∃q m k,e=.returned (lS out.res.outcome out.res.step out.res.dt q m k dj out.saved out.e)/\w'.ownsRow w.heap.size 2 1 (J q m k) out.res.dA.length (out.res.dA.map (Z Y)))/\
 ∃l,iV w' j E out.R R l/\fj w O w' l
structure Mm (W:WR) (B:Nat) (every keep cap:Int):Prop where
 c:W.heap[B]?=S (D #[Z Y every,Z Y keep,Z Y cap] 23 (0,0))
 x:W.heap[B+1]?=S (D #[Z .u8 0,Z Y 0,Z Y 0,J U 0 0] 32 (0,0))
 r:W.heap[B+1+1]?=S (D #[Z Y 0,Z Y 0] 43 (0,0))
variable {every keep cap:Int}{W' W:WR}{B:Nat}
theorem Mm.below(h:Mm W B every keep cap)(hb:WQ W W'): Mm W' B every keep cap:=⟨(hb.block _ (cV h.c)).trans h.c,(hb.block _ (cV h.x)).trans h.x,(hb.block _ (cV h.r)).trans h.r⟩
theorem jj(w:WR)(every keep cap:Int):∀W,W=((w.alloc (D #[Z Y every,Z Y keep,Z Y cap] 23)).alloc (D #[Z .u8 0,Z Y 0,Z Y 0,J U 0 0] 32)).alloc (D #[Z Y 0,Z Y 0] 43)->
  Mm W (K (E w)) every keep cap/\WQ w W/\(K (E W))=K (E w)+3:=by
 rintro W rfl;have a:∀(W:WR) (o:Obj) (j:Nat),j<K (E W)->(W.alloc o).heap[j]?=W.heap[j]?:=λW o j h=>Ur W o j h
 have n:∀(W:WR) (o:Obj) (j:Nat),j=K (E W)->(W.alloc o).heap[j]?=S o:=λW o j h=>by rw[h];exact Vz W o
 refine⟨⟨?_,?_,?_⟩,?_,by simp⟩
 .rw[a _ _ _ (by simp <;> omega),a _ _ _ (by simp),n _ _ _ rfl]
 .rw[a _ _ _ (by simp),n _ _ _ (by simp)]
 .rw[n _ _ _ (by simp)]
 .exact((((T4 _ w).alloc WN _).alloc (by simp) _).alloc (by simp <;> omega) _)
structure vK (W W':WR) (B:Nat) (a b c d f s:WS):Prop where
 kept:Kept W W' (λk=>k≠B+1/\k≠B+1+1)
 x:W'.heap[B+1]?=S (D #[a,b,c,d] 32 (0,0))
 r:W'.heap[B+1+1]?=S (D #[f,s] 43 (0,0))
theorem Nz{r u y z l m:WS}(A:W.heap[B+1]?=S (D #[r,u,y,z] 32 (0,0)))(C:W.heap[B+1+1]?=S (D #[l,m] 43 (0,0)))(a b c d f s:WS):vK W ((((((W.setCell ⟨B+1,0,U⟩ a).setCell ⟨B+1,1,U⟩ b).setCell ⟨B+1,2,U⟩ c).setCell ⟨B+1,3,U⟩ d).setCell ⟨B+1+1,0,U⟩ f).setCell ⟨B+1+1,1,U⟩ s) B a b c d f s:=by
 have F:=Ue W _ 0 _ _ a A;have G:=Ue _ _ 1 _ _ b F;have I:=Ue _ _ 2 _ _ c G;have L:=Ue _ _ 3 _ _ d I;have j:B+1+1≠B+1:=by omega
 have M:((((W.setCell ⟨B+1,0,U⟩ a).setCell ⟨B+1,1,U⟩ b).setCell ⟨B+1,2,U⟩ c).setCell ⟨B+1,3,U⟩ d).heap[B+1+1]?=S (D #[l,m] 43 (0,0)):=by
  rw[Uj _ _ _ _ j,Uj _ _ _ _ j,Uj _ _ _ _ j,Uj _ _ _ _ j];exact C
 have N:=Ue _ _ 0 _ _ f M;have P:=Ue _ _ 1 _ _ s N;refine⟨((((((Kept.refl W _).setCell (λe=>e.1 O) _).setCell (λe=>e.1 O) _).setCell (λe=>e.1 O) _).setCell (λe=>e.1 O) _).setCell (λe=>e.2 O) _).setCell (λe=>e.2 O) _,?_,?_⟩
 .rw[Uj _ _ _ _ (Vm j),Uj _ _ _ _ (Vm j),L];rfl
 .rw[P];rfl
theorem Sg{l m r u y z:WS}(A:W.heap[B+1]?=S (D #[l,m,r,u] 32 (0,0)))(C:W.heap[B+1+1]?=S (D #[y,z] 43 (0,0)))(a b c d f s:WS):vK W ((((((W.setCell ⟨B+1+1,0,U⟩ f).setCell ⟨B+1+1,1,U⟩ s).setCell ⟨B+1,0,U⟩ a).setCell ⟨B+1,1,U⟩ b).setCell ⟨B+1,2,U⟩ c).setCell ⟨B+1,3,U⟩ d) B a b c d f s:=by
 have F:=Ue W _ 0 _ _ f C;have G:=Ue _ _ 1 _ _ s F;have j:B+1≠B+1+1:=by omega
 have I:((W.setCell ⟨B+1+1,0,U⟩ f).setCell ⟨B+1+1,1,U⟩ s).heap[B+1]?=S (D #[l,m,r,u] 32 (0,0)):=by
  rw[Uj _ _ _ _ j,Uj _ _ _ _ j];exact A
 have L:=Ue _ _ 0 _ _ a I;have M:=Ue _ _ 1 _ _ b L;have N:=Ue _ _ 2 _ _ c M;have P:=Ue _ _ 3 _ _ d N;refine⟨((((((Kept.refl W _).setCell (λe=>e.2 O) _).setCell (λe=>e.2 O) _).setCell (λe=>e.1 O) _).setCell (λe=>e.1 O) _).setCell (λe=>e.1 O) _).setCell (λe=>e.1 O) _,?_,?_⟩
 .rw[P];rfl
 .rw[Uj _ _ _ _ (Vm j),Uj _ _ _ _ (Vm j),Uj _ _ _ _ (Vm j),Uj _ _ _ _ (Vm j),G];rfl
variable {c a d f b s:WS}
theorem vK.drew(h:vK W.drew W' B a b c d f s): vK W W' B a b c d f s:=⟨⟨h.kept.os,h.kept.tape,h.kept.output,h.kept.size,h.kept.block⟩,h.x,h.r⟩
variable {n:Nat}
theorem gI{e:Array WS}(u:e[8]?=S (WV (S ⟨B+1,0,U⟩)))(y:e[9]?=S (WV (S ⟨B+1+1,0,U⟩))){a b c:Int}{p:Option Addr}{k dj sv:Nat}{m:Int}(r:e[10]?=S (Z Y m))(j:W.heap[B+1]?=S (D #[Z .u8 a,Z Y b,Z Y c,J p n k] 32 (0,0)))(l:W.heap[B+1+1]?=S (D #[Z Y (dj:Int),Z Y (sv:Int)] 43 (0,0))):(results f12 e).run prog W=.ok (lS a b c p n k dj sv m) W:=by
 have z:W.cell? ⟨B+1,0,U⟩=S (Z .u8 a):=by rw[T5 W _ 0 _ _ _ j];rfl
 have A:W.cell? ⟨B+1,1,U⟩=S (Z Y b):=by rw[T5 W _ 1 _ _ _ j];rfl
 have C:W.cell? ⟨B+1,2,U⟩=S (Z Y c):=by rw[T5 W _ 2 _ _ _ j];rfl
 have F:W.cell? ⟨B+1,3,U⟩=S (J p n k):=by rw[T5 W _ 3 _ _ _ j];rfl
 have G:W.cell? ⟨B+1+1,0,U⟩=S (Z Y (dj:Int)):=by rw[T5 W _ 0 _ _ _ l];rfl
 have I:W.cell? ⟨B+1+1,1,U⟩=S (Z Y (sv:Int)):=by rw[T5 W _ 1 _ _ _ l];rfl
 clear j l;unfold lS
 simp_all [results,results12,go_sem,Value.oneCell']
variable {w:WR}
theorem vK.stays{j E:Nat}{Q R:Rk}{O0 O:Nat->Prop}(h:vK W W' w.heap.size a b c d f s)(hb:Mm W w.heap.size every keep cap)(h2:iV W j E Q R O)(l:fj w O0 W O): iV W' j E Q R O/\fj w O0 W' O:=by
 have u:=l.kept.size;have y:∀k,O k->k≠w.heap.size+1/\k≠w.heap.size+1+1:=λk m=>⟨λe=>mM h2 hb.x (by decide) (e ▸ m),λe=>mM h2 hb.r (by decide) (e ▸ m)⟩
 refine⟨oz h2 h.kept y,⟨⟨h.kept.os.trans l.kept.os,h.kept.tape.trans l.kept.tape,h.kept.output.trans l.kept.output,Uc u h.kept.size,λk m z=>?_⟩,l.own⟩⟩;rw[h.kept.block k (by omega) ⟨by omega,by omega⟩];exact l.kept.block k m z
theorem vK.row{e j:Nat}{v:WS}{l:List WS}(h:vK W W' (K (E w)) a b c d f s)(hb:Mm W (K (E w)) every keep cap)(m:W.ownsRow B e j v n l)(he:e≠32/\e≠43): W'.ownsRow B e j v n l:=Dk.dv m h.kept λg y=>by
  obtain⟨z,u,_⟩:=dh m y;exact⟨de u hb.x he.1,de u hb.r he.2⟩
theorem Gt{r wr:WR}{O u:Nat->Prop}{j:Nat}{v v':WS}(hb:WQ w r)(l:fj r (OO O j v) wr (OO u j v'))(hS:∀k,qC j v k->K (E w)<=k): fj w O wr u:=by
 have y:=hb.size;refine⟨⟨l.kept.os.trans hb.os,l.kept.tape.trans hb.tape,l.kept.output.trans hb.output,Uc y l.kept.size,λk m z=>?_⟩,λk m=>?_⟩
 .refine(l.kept.block k (by omega) (λe=>?_)).trans (hb.block k m);rcases e with e|e
  .exact z e
  .have:=hS k e;omega
 .rcases l.own k (Xa m) with e|e
  .rcases e with e|e
   .exact Xa e
   .exact Xb (hS k e)
  .exact Xb (by omega)
theorem SQ{T:Sn.Tb}{Q:Rk}{g p:WU}(l:(jx g).length=n)(he:∀x∈T,qi w 0 Q.rd n x):(T=[]/\th (T.map (·.1))=0/\Ac g p (T.map (·.1)) Q=Sp.fX (Sp.ik p) (jx g))\/(∃j x,T=j++[(th (T.map (·.1)),x)]/\Ac g p (T.map (·.1)) Q=fp Q.rd n (th (T.map (·.1)))/\qi w 0 Q.rd n (th (T.map (·.1)),x)):=by
 rcases Wk T with h|⟨j,⟨s,x⟩,h⟩
 .subst h;exact Xa ⟨O,O,by unfold Ac;rw[T0 (by rfl)]⟩
 .rw[Wl] at h;subst h;have e:th ((j++[(s,x)]).map (·.1))=s:=by rw[Vn];exact vX _ _
  refine Xb ⟨j,x,by rw[e],?_,by rw[e];exact he _ (by simp)⟩;unfold Ac;rw[TZ (by simp),l]
theorem PS{T:Sn.Tb}(h:Sn.di T):∀x∈T,x.1<=th (T.map (·.1)):=by
 rcases Wk T with e|⟨j,⟨s,x⟩,e⟩
 .subst e;intro x l;cases l
 .rw[Wl] at e;subst e;have e:th ((j++[(s,x)]).map (·.1))=s:=by rw[Vn];exact vX _ _
  rw[e];exact IX h
theorem Gq{w':WR}{F:WU->WU}{x:Nat × Sn.Ce}(h:qi w B F n x)(hb:WQ w w'): qi w' B F n x:=⟨h.1,h.2.1,dd h.2.2 hb⟩
end Ru
namespace Ru
open Sp (Pg Ed Cfg eY iO)
open Rd (Rk e0)
open Pk (iV Sm fj TP dh cV de)
open Dk (Kept)
theorem rF(W:WR)(a b c:Int)(r:Bool)(h:Hid ((decide (b<=a)&&decide (a<=c))=r)):WT prog 23 #[Z Y a,Z Y b,Z Y c] W λe j=>e=.returned (.bool r)/\j=W:=by
 have:=zO a b c W;rw[cS h] at this;exact this
theorem BP(j E nn b:Nat)(Q R:Rk)(O:Nat->Prop)(g p:WU)(every keep cap:Int)(z f:Addr)(w:WR)(h2:iV w j E Q R O)(bg:Sm Q nn b)(bW:nn+2000<=1000000000)(bX:1000<=b)(bh:b<=2097152)(hg:g.size<=1048576)(hp:p.size<=1048576)(hT:Lib.Utf8Tabs 3 4 w)(hC:lZ w)(bj:jY w z f)(bk:fI w)(bn:∀k,(k=1\/k=2\/k=z.block\/k=f.block\/k=6)->¬O k):WT prog 12 #[WV (S ⟨j,0,U⟩),H g,H p,.agg #[Z Y every,Z Y keep,Z Y cap]] w (zD g j E R O (jd g p every keep cap Q) (oo g p every keep cap Q) w):=by
 generalize hO:zD g j E R O (jd g p every keep cap Q) (oo g p every keep cap Q) w=PP;replace hO:=cT hO;have bo:=cT (jj w every keep cap);have bp:=cT (λW (hb:WQ w W)=>Bi g p W (eM hT hb) (hC.below hb));have H2:=cT h2;have bq:=cT bg;have av:=cT bj;have aF:=cT bk;have br:=cT bn;clear h2 bg bj bk bn hT hC;go_enter func12,ntmps12;go_wp2_with fail;generalize hW:World.alloc (World.alloc _ _) _=W0;obtain⟨aw,aG,aT⟩:=cS bo W0 hW.symm;clear hW bo;refine(cS bp W0 aG).mono ?_;rintro e w1 ⟨ad,bs,p0,n0,k0,p1,n1,k1,p2,n2,k2,pv,rfl,bu⟩;obtain⟨ra,o⟩:∃ra,Hid (iN g p=ra):=⟨_,rfl⟩
 rw[cS o];have bw:=cT bu;have aH:=cT bs;clear bu bs bp;go_upto_region 2 with fail;generalize aU:World.alloc _ _=C;have aV:WQ w1 C:=by rw[<-aU];exact WO.alloc WN _
 have bx:C.heap[w1.heap.size]?=S (D #[J p0 n0 k0,J p1 n1 k1,J p2 n2 k2] 68 (0,0)):=by rw[<-aU];exact T9 w1 _
 have ax:WQ W0 C:=ad.trans (aV.mono ad.size);have L:=cT (aw.below ax);have N:=cT (aG.trans (ax.mono aG.size));have bA:Hid (w.heap.size+3<=w1.heap.size):=by have:=ad.size;show _<=_;omega
 have bY:=cT aT;have aW:=cT aV;have au:=cT bx;clear aU aG aw ad aV bx ax aT;have aX:Hid (∀(W W':WR) (er:Int),WQ w W->Mm W w.heap.size every keep cap->vK W W' w.heap.size (Z .u8 0) (Z Y 0) (Z Y 0) (J U 0 0) (Z Y 0) (Z Y 0)->jd g p every keep cap Q=⟨fG,0,er,Q⟩/\oo g p every keep cap Q=0->PP (.returned (lS 0 0 0 U 0 0 0 0 er)) W'):=by
  show ∀W W' er,_
  intro W W' er hb hx he hr;rw[<-cS hO,hr.1,hr.2];obtain⟨t1,t2⟩:=he.stays hx ((cS H2).below hb) (fj.below O hb);exact⟨cS aH,⟨U,0,0,rfl,Uw _ _ _ _⟩,O,t1,t2⟩
 have x0:∀(W:WR),Mm W w.heap.size every keep cap->(W.cell? ⟨w.heap.size+1,0,U⟩=S (Z .u8 0)/\W.cell? ⟨w.heap.size+1,1,U⟩=S (Z Y 0)/\W.cell? ⟨w.heap.size+1,2,U⟩=S (Z Y 0)/\W.cell? ⟨w.heap.size+1,3,U⟩=S (J U 0 0)/\W.cell? ⟨w.heap.size+1+1,0,U⟩=S (Z Y 0)/\W.cell? ⟨w.heap.size+1+1,1,U⟩=S (Z Y 0))/\(∀i,W.frozen? ⟨w.heap.size+1,i,U⟩=false)/\(∀i,W.frozen? ⟨w.heap.size+1+1,i,U⟩=false)/\(W.cell? ⟨w.heap.size,0,U⟩=S (Z Y every)/\W.cell? ⟨w.heap.size,1,U⟩=S (Z Y keep)/\W.cell? ⟨w.heap.size,2,U⟩=S (Z Y cap)):=λW h=>by
  refine⟨⟨?_,?_,?_,?_,?_,?_⟩,λi=>by simp[World.frozen?,h.x],λi=>by simp[World.frozen?,h.r],?_,?_,?_⟩
  .rw[T5 W _ 0 _ _ _ h.x];rfl
  .rw[T5 W _ 1 _ _ _ h.x];rfl
  .rw[T5 W _ 2 _ _ _ h.x];rfl
  .rw[T5 W _ 3 _ _ _ h.x];rfl
  .rw[T5 W _ 0 _ _ _ h.r];rfl
  .rw[T5 W _ 1 _ _ _ h.r];rfl
  .rw[T5 W _ 0 _ _ _ h.c];rfl
  .rw[T5 W _ 1 _ _ _ h.c];rfl
  .rw[T5 W _ 2 _ _ _ h.c];rfl
 have aj:=cT x0;clear x0;by_cases c1:ra=0
 rotate_left
 .have b4:(ra != 0)=true:=by rw[VH];exact c1
  have HE:Hid (jd g p every keep cap Q=⟨fG,0,ra,Q⟩/\oo g p every keep cap Q=0):=by
   show _/\_
   have e1:pd g p every keep cap=ra:=by unfold pd;rw[T0 (by rw[cS o];exact c1),cS o]
   unfold jd oo;rw[e1,T0 c1,T0 c1];exact⟨rfl,rfl⟩
  obtain⟨⟨r0,r1,r2,r3,s0,s1⟩,rf,sf,_⟩:=cS aj C (cS L);have he:=Nz (cS L).x (cS L).r (Z .u8 0) (Z Y 0) (Z Y 0) (J U 0 0) (Z Y 0) (Z Y 0);have ak:=cT (cS aX C _ ra (cS N) (cS L) he (cS HE));have I:=cT he;clear c1 he;go_wp2;exact T8 (gI (by rfl) (by rfl) (by rfl) (cS I).x (cS I).r) rfl (cS ak)
 subst c1;by_cases c2:(1<=every/\every<=50)/\(1<=keep/\keep<=5)/\(0<=cap/\cap<=200)
 rotate_left
 .have HE:Hid (jd g p every keep cap Q=⟨fG,0,8,Q⟩/\oo g p every keep cap Q=0):=by
   show _/\_
   have e1:pd g p every keep cap=8:=by unfold pd;rw[TZ (by rw[cS o];simp),T0 c2]
   unfold jd oo;rw[e1,T0 (by decide),T0 (by decide)];exact⟨rfl,rfl⟩
  obtain⟨⟨r0,r1,r2,r3,s0,s1⟩,rf,sf,q0,q1,q2⟩:=cS aj C (cS L);have he:=Nz (cS L).x (cS L).r (Z .u8 0) (Z Y 0) (Z Y 0) (J U 0 0) (Z Y 0) (Z Y 0);have ak:=cT (cS aX C _ 8 (cS N) (cS L) he (cS HE));have I:=cT he;clear he;obtain⟨d1,E1⟩:∃d,Hid ((decide (1<=every)&&decide (every<=50))=d):=⟨_,rfl⟩
  obtain⟨d2,E2⟩:∃d,Hid ((decide (1<=keep)&&decide (keep<=5))=d):=⟨_,rfl⟩
  obtain⟨d3,E3⟩:∃d,Hid ((decide (0<=cap)&&decide (cap<=200))=d):=⟨_,rfl⟩
  cases d1 with
  |false =>
   clear c2;go_wp2_with (go_at_call 23;go_must (refine(rF _ _ _ _ _ (by assumption)).mono ?_);rintro e y ⟨rfl,an⟩;obtain rfl:=an.symm);exact T8 (gI (by rfl) (by rfl) (by rfl) (cS I).x (cS I).r) rfl (cS ak)
  |true =>
   cases d2 with
   |false =>
    clear c2;go_wp2_with (go_at_call 23;go_must (refine(rF _ _ _ _ _ (by assumption)).mono ?_);rintro e y ⟨rfl,an⟩;obtain rfl:=an.symm);exact T8 (gI (by rfl) (by rfl) (by rfl) (cS I).x (cS I).r) rfl (cS ak)
   |true =>
    cases d3 with
    |false =>
     clear c2;go_wp2_with (go_at_call 23;go_must (refine(rF _ _ _ _ _ (by assumption)).mono ?_);rintro e y ⟨rfl,an⟩;obtain rfl:=an.symm);exact T8 (gI (by rfl) (by rfl) (by rfl) (cS I).x (cS I).r) rfl (cS ak)
    |true =>
     exfalso;have a1:=cS E1;have a2:=cS E2;have a3:=cS E3;simp only[V6,decide_eq_true_eq] at a1 a2 a3;exact c2 ⟨a1,a2,a3⟩
 obtain⟨ev,rfl⟩:∃ev:Nat,every=(ev:Int):=⟨every.toNat,by omega⟩
 obtain⟨s,rfl⟩:∃s:Nat,keep=(s:Int):=⟨keep.toNat,by omega⟩
 obtain⟨A,rfl⟩:∃A:Nat,cap=(A:Int):=⟨cap.toNat,by omega⟩
 have E1:Hid ((decide (1<=(ev:Int))&&decide ((ev:Int)<=50))=true):=by show _=_;simp;omega
 have E2:Hid ((decide (1<=(s:Int))&&decide ((s:Int)<=5))=true):=by show _=_;simp;omega
 have E3:Hid ((decide (0<=(A:Int))&&decide ((A:Int)<=200))=true):=by show _=_;simp;omega
 have l1:0<ev/\ev<=50:=by omega
 have l2:0<s/\s<=5:=by omega
 have l3:A<=200:=by omega
 have aY:Hid (pd g p ev s A=0):=by show _=_;unfold pd;rw[TZ (by rw[cS o];simp),TZ (by omega)]
 have HL:=cT (And.intro l1 (And.intro l2 l3));clear c2 l1 l2 l3;obtain⟨_,_,_,q0,q1,q2⟩:=cS aj C (cS L);obtain⟨m1,m2,m3,bB,bC,B,rfl,aM⟩:=cS bw (cS o);subst m1 m2 m3;have bD:=cT bB;have bE:=cT bC;have aN:=cT aM;clear bB bC aM bw;obtain⟨n,HN⟩:∃n,Hid ((jx g).length=n):=⟨_,rfl⟩
 obtain⟨ne,aO⟩:∃ne,Hid ((pO g).length=ne):=⟨_,rfl⟩
 rw[cS HN,cS aO] at au;rw[cS HN];obtain⟨GB,bF⟩:∃GB,Hid (w1.heap.size=GB):=⟨_,rfl⟩
 rw[cS bF] at au ⊢;obtain⟨g0,g1,g2,gf⟩:=dZ (cS au);clear gf;go_upto_region 6 with (go_at_call 23;go_must (refine(rF _ _ _ _ _ (by assumption)).mono ?_);rintro e y ⟨rfl,an⟩;obtain rfl:=an.symm)
 clear q0 q1 q2 g0 g1 g2 E1 E2 E3;have aP:n<=64:=by rw[<-cS HN];exact(qE (jm (cS o)).1 (jm (cS o)).2 (cS aH)).1.It
 have aI:=cT (λW (hW:WQ C W)=>AM g p A n W hg hp (cS HL).2.2 ((cS aF).below ((cS N).trans (hW.mono (cS N).size))));have ay:=cT (λW (hW:WQ C W)=>zT j E nn b (oJ g p A) n s Q R O W ((cS H2).below ((cS N).trans (hW.mono (cS N).size))) (cS bq) (by omega) bh aP (FD _ _ _) ((cS aF).below ((cS N).trans (hW.mono (cS N).size))));obtain⟨js,aJ⟩:∃js,Hid (oJ g p A=js):=⟨_,rfl⟩
 rw[cS aJ] at aI ay;unfold Em at ay;have bZ:js<4294967296:=by rw[<-cS aJ];exact FD _ _ _
 have az:Hid (∀(args:Array WS) (w:WR),(callFunc 31 args).run prog w=.ok (.enter 31 args) w):=cZ func31 (by kernel_rfl) (by kernel_rfl);have aA:Hid (∀(args:Array WS) (w:WR),(callFunc 30 args).run prog w=.ok (.enter 30 args) w):=cZ func30 (by kernel_rfl) (by kernel_rfl);obtain⟨_,_,_,q0,q1,q2⟩:=cS aj C (cS L);obtain⟨g0,g1,g2,gf⟩:=dZ (cS au);clear gf q0 g0 g2;have bG:=cV (cS L).c;have aK:Hid (WQ C C.drew):=WO.drew;by_cases c3:Q.nD=0
 rotate_left
 .apply wB (λw'=>Hid (WQ C w'));apply Exists.intro;apply And.intro
  case left =>
   go_region_law (first
   |(refine du (by rfl) _ _ _ (by rfl) 31 (by rfl) _ (by rfl) (cS az) (cS aI _ (by first|exact T4 _ _|exact cS aK)) ?_;rintro e y ⟨rfl,F⟩;dsimp only;have P:WQ C y:=(by first|exact F|exact(cS aK).trans (F.mono WN));have M:=cT P;have i1:=(P.cell (p:=⟨w.heap.size,1,U⟩) bG).trans q1;clear P F)
   |(refine du (by rfl) _ _ _ (by rfl) 30 (by rfl) _ (by rfl) (cS aA) (cS ay y (cS M)) ?_;rintro e wr ⟨ae,bH,_⟩;obtain rfl:=bH c3;dsimp only;have aa:Hid (WQ C wr):=(cS M).trans (ae.mono (cS M).size);clear ae bH))
   all_goals exact⟨rfl,rfl,aa⟩
  case right =>
  rintro w3 af;obtain⟨le,bI⟩:∃le,Hid (Q.nD=le):=⟨_,rfl⟩
  have HE:Hid (jd g p ev s A Q=⟨fG,0,le,Q⟩/\oo g p ev s A Q=0):=by
   show _/\_
   unfold jd oo;rw[TZ (by rw[cS aY];simp),T0 c3,TZ (by rw[cS aY];simp),T0 c3,cS bI];exact⟨rfl,rfl⟩
  rw[cS bI] at c3 ⊢;have b5:(le != 0)=true:=by rw[VH];exact c3
  have ag:=cT ((cS L).below (cS af));have ah:=cT ((cS N).trans ((cS af).mono (cS N).size));clear q1 q2 g1;obtain⟨⟨r0,r1,r2,r3,s0,s1⟩,rf,sf,_⟩:=cS aj w3 (cS ag);have he:=Nz (cS ag).x (cS ag).r (Z .u8 0) (Z Y 0) (Z Y 0) (J U 0 0) (Z Y 0) (Z Y 0);have ak:=cT (cS aX w3 _ le (cS ah) (cS ag) he (cS HE));have I:=cT he;clear c3 he;go_wp2;exact T8 (gI (by rfl) (by rfl) (by rfl) (cS I).x (cS I).r) rfl (cS ak)
 apply vd (λu w'=>∃l v T,u=WV (S ⟨l,0,U⟩)/\Hid (WQ C w')/\Hid (C.heap.size<=l/\gG w' l j js n s v T/\(∀g,v.ownBlock=S g->C.heap.size<=g)/\T.map (·.1)=oj (fQ Q.rd n js Q.fD)/\∀x∈T,qi w' 0 Q.rd n x));apply Exists.intro;apply And.intro
 case left =>
  go_region_law (first
  |(refine du (by rfl) _ _ _ (by rfl) 31 (by rfl) _ (by rfl) (cS az) (cS aI _ (by first|exact T4 _ _|exact cS aK)) ?_;rintro e y ⟨rfl,F⟩;dsimp only;have P:WQ C y:=(by first|exact F|exact(cS aK).trans (F.mono WN));have M:=cT P;have i1:=(P.cell (p:=⟨w.heap.size,1,U⟩) bG).trans q1;clear P F)
   | (refine du (by rfl) _ _ _ (by rfl) 30 (by rfl) _ (by rfl) (cS aA) (cS ay y (cS M)) ?_;rintro e wr ⟨ae,_,aQ⟩;obtain⟨l,v,T,rfl,k1,k2,k3,k4,k5,k6⟩:=aQ c3;dsimp only;have aa:Hid (WQ C wr):=(cS M).trans (ae.mono (cS M).size);have b0:Hid (C.heap.size<=l/\gG wr l j js n s v T/\(∀g,v.ownBlock=S g->C.heap.size<=g)/\T.map (·.1)=oj (fQ Q.rd n js Q.fD)/\∀x∈T,qi wr 0 Q.rd n x):=⟨Uc (cS M).size k1,k2,λg hg=>Uc (cS M).size (k3 g hg),k4,λx hx=>⟨(k5 x hx).1,(k5 x hx).2.1,Rd.lA (k5 x hx).2.2 (Ud _)⟩⟩;clear ae aQ k1 k2 k3 k4 k5 k6))
  all_goals
   generalize hu:Value.pointer (S ⟨l,0,U⟩)=u at *;exact⟨rfl,u,rfl,l,v,T,hu.symm,aa,b0⟩
 case right =>
 rintro u w3 ⟨l,v,T,rfl,af,ai⟩;clear q1 q2 g1 aI ay az aA;have ag:=cT ((cS L).below (cS af));have ah:=cT ((cS N).trans ((cS af).mono (cS N).size));obtain⟨_,_,_,q0,q1,q2⟩:=cS aj w3 (cS ag);obtain⟨g0,g1,g2,gf⟩:=dZ (((cS af).block _ (cV (cS au))).trans (cS au));clear gf q1;obtain⟨aZ,bJ⟩:=qE (jm (cS o)).1 (jm (cS o)).2 (cS aH);have bK:Hid (iO (Sp.ik p) (pO g) n):=by show iO _ _ _;rw[<-cS HN];exact aZ
 have aq:Hid (WQ w1 w3):=(cS aW).trans ((cS af).mono (cS aW).size);have a6:=cT (λW (hW:WQ w3 W)=>uV p0 n k0 p1 k1 p2 k2 B A (pO g) W ((cS bE).below ((cS aq).trans (hW.mono (cS aq).size))) aP aZ.es (λx hx=>((cS bK).ed x hx).1));rw[cS aO] at a6;unfold yz dV at a6;have bL:Hid (eY n (Ac g p (T.map (·.1)) Q)):=by show eY _ _;rw[<-cS HN];exact OI (Sp.rE (Sp.ik p) (jx g) bJ)
 obtain⟨fr,aB⟩:∃fr,Hid (th (T.map (·.1))=fr):=⟨_,rfl⟩
 obtain⟨G,aC⟩:∃G,Hid (jd g p ev s A Q=G):=⟨_,rfl⟩
 have a7:Hid (oT g p A Q=T.map (·.1)):=by show _=_;unfold oT;rw[cS HN,cS aJ];exact(cS ai).2.2.2.1.symm
 have bM:fr<=4294967295:=by rw[<-cS aB,<-cS a7];exact Pr
 have a8:Hid (DJ (Sp.ik p) (pO g) A ev s js n fr (Ac g p (T.map (·.1)) Q) ((T.drop (T.length-s)).map (·.1)) Q=G/\oo g p ev s A Q=fr):=by
  have h:=ze (cS aY) c3 (cS a7)
  show _/\_
  rw[<-cS aC,h.1,h.2,cS aB,cS aJ,cS HN,UX,List.map_drop];exact⟨rfl,rfl⟩
 have aD:Hid (∀k,qC l v k->C.heap.size<=k/\k<w3.heap.size):=λk hk=>by
  refine⟨?_,(cS ai).2.1.jK hk⟩;rcases hk with rfl|e
  .exact(cS ai).1
  .exact(cS ai).2.2.1 k e
 have ba:Hid (w.heap.size+3<=C.heap.size/\w1.heap.size<=C.heap.size/\C.heap.size<=w3.heap.size):=by
  have h1:=cS bA;have h2:=(cS aW).size;exact⟨by omega,h2,(cS af).size⟩
 have bN:Hid (∀y,WQ w3 y->ou y j E l js n s Q R O v T):=λy hq=>by
  have ao:=(cS ah).trans (hq.mono (cS ah).size);have hz:=cS ba;refine⟨(cS H2).below ao,(cS ai).2.1.below hq,λk hk hs=>?_,(cS aF).below ao,λbc=>?_⟩
  .have h1:=(cS H2).lt hk;have h2:=(cS aD k hs).1;omega
  .rcases bc with e|e
   .exact cS br _ (Xb (Xb (Xb (Xb rfl)))) e
   .have h1:=(cS aD _ e).1;have h2:=(cS aF).lt;omega
 have bd:Hid (∀(y:WR) (pe:Option Addr) (ke:Nat),WQ w3 y->Mj w3.heap.size y.heap.size y pe n (pO g)->WT prog 32 #[.agg #[WV (S ⟨B,0,U⟩),J p1 n k1,J pe n ke,Z Y (A:Int)],WV (S ⟨l,0,U⟩),Z Y (ev:Int)] y (NN j E l js n s fr R O v G y)):=by
  show ∀y pe ke,_
  intro y pe ke hq aL;have X:=cS bN y hq;have ao:=(cS ah).trans (hq.mono (cS ah).size);have aR:=(cS aq).trans (hq.mono (cS aq).size);have hz:=cS ba;have aT:=cS bY;have bO:=SQ (g:=g) (p:=p) (cS HN) (λx hx=>Gq ((cS ai).2.2.2.2 x hx) hq);rw[cS aB] at bO;have bP:=JE X ((cS aN).below aR) aL ((cS av).below ao) (λk hk=>by have:=(cS H2).lt hk;omega) (λk hk=>by have:=cS aD k hk;omega) (by have:=cS bA;omega) (by omega) WN (λk hk bc=>by
   have b6:k<w.heap.size:=by
    rcases hk with rfl|rfl|rfl|rfl
    .exact(cS av).lz
    .exact(cS av).lf
    .obtain⟨c,t,hz⟩:=(cS av).bz;exact cV hz
    .obtain⟨c,t,hz⟩:=(cS av).bf;exact cV hz
   rcases bc with e|e
   .exact cS br k (by rcases hk with h|h|h|h;exact Xa h;exact Xb (Xa h);exact Xb (Xb (Xa h));exact Xb (Xb (Xb (Xa h)))) e
   .have:=(cS aD k e).1;omega)
  have b1:∀x∈T,x.1<=fr:=by rw[<-cS aB];exact PS (cS ai).2.1.tab.me
  have h:=CO j E l js n s ev A B p1 k1 pe ke (Sp.ik p) (pO g) z f (jx g) fr (Ac g p (T.map (·.1)) Q) nn b Q R O v T y X bO bP ((cS bD).below aR) (cS HN) (cS bL) (cS bK) (cS HL).2.2 bZ (cS HL).1.1 (cS HL).1.2 b1 bM (cS bq) bW bX bh (cS HL).2.1.2 c3;rw[(cS a8).1] at h;unfold dV at h;exact h
 have bQ:Hid (∀(args:Array WS) (w:WR),(callFunc 24 args).run prog w=.ok (.enter 24 args) w):=cZ func24 (by kernel_rfl) (by kernel_rfl);have bR:Hid (∀(args:Array WS) (w:WR),(callFunc 32 args).run prog w=.ok (.enter 32 args) w):=cZ func32 (by kernel_rfl) (by kernel_rfl);have b2:=cV (cS ag).c;have bS:Hid (WQ w3 w3.drew):=WO.drew;have aS:Hid (∀(y wr W':WR) (q:Option Addr) (m k:Nat) (O':Nat->Prop) (v':WS) (T':Sn.Tb),WQ w3 y->wr.ownsRow y.heap.size 2 1 (J q m k) G.res.dA.length (G.res.dA.map (Z Y))->ou wr j E l js n s G.R R O' v' T'->fj y (OO O l v) wr (OO O' l v')->vK wr W' w.heap.size (Z .u8 G.res.outcome) (Z Y G.res.step) (Z Y G.res.dt) (J q m k) (Z Y (fr:Int)) (Z Y (G.saved:Int))->Mm wr w.heap.size ev s A->PP (.returned (lS G.res.outcome G.res.step G.res.dt q m k fr G.saved G.e)) W'):=by
  show ∀y wr W' q m k O' v' T',_
  intro y wr W' q m k O' v' T' hq ar X ab he aw;have ao:=(cS ah).trans (hq.mono (cS ah).size);have hz:=cS ba;have hs:=Gt ao ab (λk hk=>by have:=(cS aD k hk).1;omega);obtain⟨t1,t2⟩:=he.stays aw X.two hs;rw[<-cS hO,cS aC,(cS a8).2];exact⟨cS aH,⟨q,m,k,rfl,he.row aw (Rd.lA ar ao.size) (by decide)⟩,O',t1,t2⟩
 have bT:Hid (∀(y wr:WR) (O':Nat->Prop) (v':WS),WQ w3 y->fj y (OO O l v) wr (OO O' l v')->Mm wr w.heap.size ev s A):=λy wr O' v' hq ab=>by
  have X:=cS bN y hq;have hb:=(cS ag).below hq;exact⟨(ab.far (cV hb.c) (je X hb.c (by decide))).1.trans hb.c,(ab.far (cV hb.x) (je X hb.x (by decide))).1.trans hb.x,(ab.far (cV hb.r) (je X hb.r (by decide))).1.trans hb.r⟩
 clear aZ bJ bM bL a7 a8 aC aB aN bD bE c3 ai;unfold NN at bd;obtain⟨⟨oc,st,vt,V⟩,sv,er,RN⟩:=G;dsimp only at bd aS;go_upto_region 9 with fail
 go_region_law (first
 |(refine du (by rfl) _ _ _ (by rfl) 24 (by rfl) _ (by rfl) (cS bQ) (cS a6 _ (by first|exact T4 _ _|exact cS bS)) ?_;rintro e y ⟨F,pe,ke,rfl,aL⟩;dsimp only;have P:WQ w3 y:=(by first|exact F|exact(cS bS).trans (F.mono WN));have M:=cT P;have b3:Hid (Mj w3.heap.size y.heap.size y pe n (pO g)):=aL;have i0:=(P.cell (p:=⟨w.heap.size,0,U⟩) b2).trans q0;clear P F aL)
  | (refine du (by rfl) _ _ _ (by rfl) 32 (by rfl) _ (by rfl) (cS bR) (cS bd y pe ke (cS M) (cS b3)) ?_;rintro e wr ⟨⟨q,m,k,rfl,ar⟩,O',v',T',X,ab⟩;unfold lS;dsimp only;have ad:=cS bT y wr O' v' (cS M) ab;obtain⟨⟨r0,r1,r2,r3,s0,s1⟩,rf,sf,_⟩:=cS aj wr ad;have aa:=cT ad;have bU:=cT (λW'=>cS aS y wr W' q m k O' v' T' (cS M) ar X ab);clear ar X ab ad))
 all_goals
  have he:=Nz (cS aa).x (cS aa).r (Z .u8 (oc:Int)) (Z Y (st:Int)) (Z Y (vt:Int)) (J q m k) (Z Y (fr:Int)) (Z Y (sv:Int));have bV:=Sg (cS aa).x (cS aa).r (Z .u8 (oc:Int)) (Z Y (st:Int)) (Z Y (vt:Int)) (J q m k) (Z Y (fr:Int)) (Z Y (sv:Int));have I:=cT he;have aE:=cT bV;clear he bV;go_wp2
  first
   |exact T8 (gI (by rfl) (by rfl) (by rfl) (cS I).x (cS I).r) rfl (cS bU _ (cS I) (cS aa))
   |exact T8 (gI (by rfl) (by rfl) (by rfl) (cS aE).x (cS aE).r) rfl (cS bU _ (cS aE) (cS aa))
   |trace_state
end Ru
end Go.Proofs.YtgkkdpegcieakaaGreatDoor
