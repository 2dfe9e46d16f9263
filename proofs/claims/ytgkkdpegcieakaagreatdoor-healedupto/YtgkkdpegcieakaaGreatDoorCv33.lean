import Derived.Test.YtgkkdpegcieakaaGreatDoorCv31
import Derived.Test.YtgkkdpegcieakaaGreatDoorCv32
set_option linter.all false
set_option maxRecDepth 100000
set_option maxHeartbeats 0
namespace Go.Proofs.YtgkkdpegcieakaaGreatDoor
open Go.Proofs.Tryz
open Value renaming int→Z,slice→J,string→H,pointer→V9
open Obj renaming cells→D
open Option renaming none→U,some→S
open Or renaming inl→Wh,inr→Wi
open _root_.Array renaming size→N
open World renaming heap→E
open IntKind renaming i64→Y
open Go renaming World→V5,Value→V6,Calls→V7
open Go.RowKit
namespace Ru
open Sp (Pg Ed Cfg)
open Rd (Rk e0)
open Pk (jd Sm fx TP di cX dh)
open Dk (Kept)
variable {W w:V5}
theorem LP(j:∀b n,kd w b n->kd W b n)(u:N (E w)<=N (E W)){x:List UInt8}{e:V6}(h:Fn w (N (E w)) x e): Fn W (N (E W)) x e:=by
 rcases h with ⟨b,n,y,l,m,r⟩|h
 .exact Wh ⟨b,n,by omega,l,j b n m,r⟩
 .exact Wi h
theorem D9{g:Nat}{L:List (List UInt8)}(h:oj w g L)(r:W.heap[g]?=w.heap[g]?)(u:∀b n,kd w b n->kd W b n)(y:N (E w)<=N (E W)): oj W g L:=by
 have m:∀i,W.cell? ⟨g,i,U⟩=w.cell? ⟨g,i,U⟩:=λi=>UI (w:=w) (a:=⟨g,i,U⟩) r
 refine⟨h.Dc,?_,by have:=h.lt;omega,λi hi=>?_⟩
 .obtain⟨z,j,l⟩:=h.rd;exact⟨z,j,λi hi=>(m _).trans (l i hi)⟩
 .obtain⟨F,e,j,l⟩:=h.fn i hi;exact⟨F,e,(m _).trans j,LP u y l⟩
variable {B:Nat}
theorem xt{o:Nat}{k:List UInt8}(h:m8 w B o k)(e:W.heap[B]?=w.heap[B]?): m8 W B o k:=by
 have b:∀i,W.cell? ⟨B,i,U⟩=w.cell? ⟨B,i,U⟩:=λi=>UI (w:=w) (a:=⟨B,i,U⟩) e
 obtain⟨j,F,l,m,r,u⟩:=h;exact⟨j,F,(b _).trans l,(b _).trans m,(b _).trans r,u⟩
variable {lo hi:Nat}
theorem wB.keep{P:Pg}(h:wB lo hi w B P)(m:∀k,lo<=k->k<hi->W.heap[k]?=w.heap[k]?)(u:∀b n,kd w b n->kd W b n)(r:N (E w)<=N (E W)): wB lo hi W B P:=by
 have e:=m B h.bl.1 h.bl.2;refine⟨h.bl,To h.hl r,λi hi=>?_,xt h.pq e,xt h.al e⟩;obtain⟨g,j,l,y,z⟩:=h.code i hi;exact⟨g,j,l,(UI (w:=w) (a:=⟨B,i*4,U⟩) e).trans y,D9 z (m g l.1 l.2) u r⟩
theorem wB.below{P:Pg}(h:wB lo hi w B P)(hb:V4 w W): wB lo hi W B P:=by
 refine h.keep (λk _ j=>hb.block k (by have:=h.hl;omega)) (λb n e=>?_) hb.size;exact(hb.block b (cX e)).trans e
theorem LG.keep{pe:Option Addr}{n:Nat}{Es:List Ed}(h:LG lo hi w pe n Es)(r:∀k,lo<=k->k<hi->W.heap[k]?=w.heap[k]?)(y:N (E w)<=N (E W)): LG lo hi W pe n Es:=λi l=>by
 obtain⟨j,p,m,a,b,c,d,e⟩:=h i l;exact⟨j,p,m,a,b,(UI (w:=w) (a:=⟨j,i,U⟩) (r j b.1 b.2)).trans c,gh.QW d (λq u _=>r q.block (e q u).1 (e q u).2) y,e⟩
theorem Hq{z f:Addr}(h:j6 w z f)(b:∀k,(k=1\/k=2\/k=z.block\/k=f.block)->W.heap[k]?=w.heap[k]?): j6 W z f:=by
 refine⟨(UI (w:=w) (a:=⟨1,0,U⟩) (b _ (Wh O))).trans h.cz,(UI (w:=w) (a:=⟨2,0,U⟩) (b _ (Wi (Wh O)))).trans h.cf,h.ne,?_,?_⟩
 .obtain⟨c,t,e⟩:=h.bz;exact⟨c,t,(b _ (Wi (Wi (Wh O)))).trans e⟩
 .obtain⟨c,t,e⟩:=h.bf;exact⟨c,t,(b _ (Wi (Wi (Wi O)))).trans e⟩
end Ru
namespace Ru
open Sp (Pg Ed Cfg)
open Rd (Rk e0)
open Pk (jd Sm fx TP di cX dh)
open Dk (Kept)
theorem Iz{F hi G L:Nat}{w:V5}{j E l dd n cY B:Nat}{Q R:Rk}{O:Nat->Prop}{v:V6}{T:Sn.Tb}{P:Pg}{Es:List Ed}{pe:Option Addr}{z f:Addr}(h:ot w j E l dd n cY Q R O v T)(M:wB F hi w B P)(he:LG G L w pe n Es)(y:j6 w z f)(V:∀k,O k->k<F)(hS:∀k,qH l v k->hi<=k/\k<G)(h1:F<=hi)(h2:hi<=G)(h3:L<=w.heap.size)(I:∀k,(k=1\/k=2\/k=z.block\/k=f.block)->¬OO O l v k):∀W X x C,w.heap.size<=C->fx w (OR O l v C) W (OR X l x C)->jH W B P/\j6 W z f/\Ht W pe n Es:=by
 intro W X x C s q;have u:∀k,k<w.heap.size->¬OO O l v k->W.heap[k]?=w.heap[k]?:=λk u p=>q.kept.block k u (λe=>by
  rcases e with e|e
  .exact p e
  .omega)
 have A:=q.kept.size;refine⟨(M.keep (λk o g=>u k (by have:=M.hl;omega) (λe=>?_)) (λb m hb=>?_) A).SU,Hq y (λk i=>u k ?_ (I k i)),(he.keep (λk o g=>u k (by omega) (λe=>?_)) A).eb (by omega)⟩
 .rcases e with e|e
  .have:=V k e;omega
  .have:=hS k e;omega
 .have r:w.heap[b]?=S (D #[Z Y m] 2 (0,0)):=hb;exact(u b (cX r) (je h r (by decide))).trans r
 .rcases i with rfl|rfl|rfl|rfl
  .exact y.lz
  .exact y.lf
  .obtain⟨c,t,K⟩:=y.bz;exact cX K
  .obtain⟨c,t,K⟩:=y.bf;exact cX K
 .rcases e with e|e
  .have:=V k e;omega
  .have:=hS k e;omega
end Ru
namespace Ru
open Classical
theorem La{T:Sn.Tb}{dp:Nat}{x:Sn.Ce}(h:Sn.dj (T++[(dp,x)])):∀y∈T++[(dp,x)],y.1<=dp:=λy b=>by
 rcases TB.1 b with e|e
 .have:=(Vt.1 h).2.2 y e (dp,x) TV;simp[Sn.lt] at this;omega
 .rw[TL.1 e];exact Te _
theorem OZ{F:V8->V8}{n dd b:Nat}{a:V8}(h:GJ F n dd a b):b<=4294967295:=by
 have j:=h.SS;have e:=gX (Sp.dw (F a)) 4 0;have l:num (Sp.dw (F a)) 0 4<4294967296:=e;omega
theorem I0{F:V8->V8}{n dd:Nat}{L:List V8}:∀s∈fS F n dd L,s<=4294967295:=λs b=>by
 rw[pA] at b;obtain⟨a,_,e⟩:=List.mem_filterMap.1 b;exact OZ (nA e).2.SJ
end Ru
namespace Ru
open Sp (Pg Ed Cfg nG eY iM)
open Rd (Rk e0)
open Pk (Sm)
open Classical
def pQ(g p:V8)(every keep cap:Int):Int:=if iL g p≠0 then iL g p else if ¬((1<=every/\every<=50)/\(1<=keep/\keep<=5)/\(0<=cap/\cap<=200)) then 8 else 0
variable {g p:V8}
theorem rh{every keep cap:Int}(h:pQ g p every keep cap=0): iL g p=0/\(1<=every/\every<=50)/\(1<=keep/\keep<=5)/\(0<=cap/\cap<=200):=by
 unfold pQ at h;by_cases b:iL g p≠0
 .rw[Tg b] at h;exact absurd h b
 .rw[Tf b] at h;refine⟨by simpa using b,?_⟩;by_cases e:(1<=every/\every<=50)/\(1<=keep/\keep<=5)/\(0<=cap/\cap<=200)
  .exact e
  .rw[Tg e] at h;exact absurd h (by decide)
def po(g p:V8)(cap:Nat)(Q:Rk):List Nat:=og (fS Q.rd (jl g).length (pW g p cap) Q.fE)
def tE(K:List Nat):Nat:=K.getLast?.getD 0
def BB(g p:V8)(K:List Nat)(Q:Rk):Cfg:=if K=[] then Sp.fX (Sp.ir p) (jl g) else fw Q.rd (jl g).length (tE K)
def pS(g p:V8)(every keep cap:Int)(Q:Rk):Nat:=if pQ g p every keep cap≠0 then 0 else if Q.nB≠0 then 0 else tE (po g p cap.toNat Q)
def jG(g p:V8)(every keep cap:Int)(Q:Rk):Out:=if pQ g p every keep cap≠0 then ⟨fO,0,pQ g p every keep cap,Q⟩ else if Q.nB≠0 then ⟨fO,0,Q.nB,Q⟩
 else EP (Sp.ir p) (pP g) cap.toNat every.toNat keep.toNat (pW g p cap.toNat) (jl g).length (tE (po g p cap.toNat Q)) (BB g p (po g p cap.toNat Q) Q) ((po g p cap.toNat Q).drop ((po g p cap.toNat Q).length-keep.toNat)) Q
variable {cap:Nat}{Q:Rk}{K:List Nat}
theorem y9{every keep:Nat}(h:pQ g p every keep cap=0)(b:Q.nB=0)(e:po g p cap Q=K):jG g p every keep cap Q=EP (Sp.ir p) (pP g) cap every keep (pW g p cap) (jl g).length (tE K) (BB g p K Q) (K.drop (K.length-keep)) Q/\pS g p every keep cap Q=tE K:=by
 unfold jG pS;rw[Tf (by rw[h];simp),Tf (by rw[b];simp),Tf (by rw[h];simp),Tf (by rw[b];simp)];simp only[Vr];rw[e];exact⟨O,O⟩
theorem Fk(g p:V8)(cap:Nat):pW g p cap<4294967296:=Sp.yU _
theorem vh(K:List Nat)(s:Nat):tE (K++[s])=s:=by unfold tE;simp
theorem LK(h:K≠[]): ∃b,K=b++[tE K]:=by
 rcases VB K with e|⟨b,s,e⟩
 .exact absurd e h
 .rw[VC] at e;refine⟨b,?_⟩;subst e;rw[vh]
theorem Ps: ∀s∈po g p cap Q,s<=4294967295:=λs b =>
 I0 s ((sx (A:=fS Q.rd (jl g).length (pW g p cap) Q.fE) (l7 (yg Q)) s).1 b)
theorem P7: tE (po g p cap Q)<=4294967295:=by
 by_cases h:po g p cap Q=[]
 .rw[h];exact Tp _
 .obtain⟨e,b⟩:=LK h;exact Ps _ (by rw[b];exact UG _ (by rw[<-b];exact List.mem_singleton_self _))
theorem N7(b:eY (jl g).length (Sp.fX (Sp.ir p) (jl g))): eY (jl g).length (BB g p K Q):=by
 unfold BB;split
 .exact b
 .exact Q8 _ _ _ _
end Ru
namespace Ru
open Sp (Pg Ed Cfg nG eY iM quiet lK fi)
open Rd (Rk e0)
open Pk (Sm)
theorem Kz{P:Pg}{Es:List Ed}{cap every keep dd n dp b:Nat}(e:n<=64)(hb:1000<=b):∀(g s:Nat) (c:Cfg) (K:List Nat) (sv:Nat) (R:Rk) (nn:Nat),Sm R nn b->Sm (rz P Es cap every keep dd n dp g s c K sv R).R (nn+8*g) b
 |0,s,c,K,sv,R,nn,h=>by rw[rz];exact h
 |g+1,s,c,K,sv,R,nn,h=>by
  have j:Sm R (nn+8*(g+1)) b:=h.mono (by omega) V2;have m:Sm (ep R (eM c n s dd)).2 (nn+8) b:=(gA.save c n s dd h e hb).all;have l:Sm (ep (ep R (eM c n s dd)).2 (fF ((K++[s]).take (K.length+1-keep)))).2 (nn+8) b:=(gA.tK (λo r=>(uG _ o r).1) m).all;rw[rz];split
  .exact j
  .split
   .exact j
   .split
    .split
     .exact m.mono (by omega) V2
     .split
      .exact l.mono (by omega) V2
      .split
       .exact l.mono (by omega) V2
       .exact(Kz e hb g _ _ _ _ _ _ l).mono (by omega) V2
    .split
     .exact j
     .exact(Kz e hb g _ _ _ _ _ _ h).mono (by omega) V2
theorem Io{P:Pg}{Es:List Ed}{cap every keep dd n dp:Nat}(m:iM P Es n)(b:cap<=200):∀(g s:Nat) (c:Cfg) (K:List Nat) (sv:Nat) (R:Rk),eY n c->(rz P Es cap every keep dd n dp g s c K sv R).res.outcome<=3/\(rz P Es cap every keep dd n dp g s c K sv R).res.dJ.length<=n
 |0,s,c,K,sv,R,u=>by rw[rz];exact⟨Tp _,Tp _⟩
 |g+1,s,c,K,sv,R,u=>by
  have j:∀(x:Nat) (e:Int) (Q:Rk),(⟨fO,x,e,Q⟩:Out).res.outcome<=3/\(⟨fO,x,e,Q⟩:Out).res.dJ.length<=n:=λ_ _ _=>⟨Tp _,Tp _⟩
  have r:=Vk u.lv;rw[rz];split
  .exact⟨by show (1:Nat)<=3;omega,r⟩
  .split
   .exact⟨by show (2:Nat)<=3;omega,r⟩
   .rename_i z;have y:∀a,lK P Es c s n=.ok a->eY n (fi P n a):=λa l=>Sp.qP m (Sp.sT m lQ u (by omega) n V2 a l)
    split
    .split
     .exact j _ _ _
     .split
      .exact j _ _ _
      .split
       .exact⟨by show (3:Nat)<=3;omega,r⟩
       .rename_i a l;exact Io m b g _ _ _ _ _ (y a l)
    .split
     .exact⟨by show (3:Nat)<=3;omega,r⟩
     .rename_i a l;exact Io m b g _ _ _ _ _ (y a l)
variable {g p:V8}
theorem jt(h:iL g p=0): yt g=0/\(Sp.comp p).1=0:=by
 unfold iL at h;by_cases c:yt g≠0
 .rw[Tg c] at h;exact absurd h c
 .rw[Tf c] at h;exact⟨by simpa using c,h⟩
theorem OM{every keep cap:Int}{R:Rk}{nn b:Nat}(h:Sm R nn b)(j:Small g)(hb:1000<=b): Sm (jG g p every keep cap R).R (nn+2000) b:=by
 have m:Sm R (nn+2000) b:=h.mono (by omega) V2;unfold jG;split
 .exact m
 .rename_i l;have l:pQ g p every keep cap=0:=by simpa using l
  split
  .exact m
  .obtain⟨r,B,C,F⟩:=rh l;obtain⟨u,y⟩:=jt r;have z:=(qG u y j).1;unfold EP;have e:Sm (ep R (dU R.fE ((po g p cap.toNat R).drop ((po g p cap.toNat R).length-keep.toNat)))).2 nn b:=(gA.tK (λo A=>(ru _ _ o A).1) h).all;split
   .exact e.mono (by omega) V2
   .exact(Kz z.FW hb _ _ _ _ _ _ _ e).mono (by omega) V2
theorem I2{every keep cap:Int}{R:Rk}(j:Small g): (jG g p every keep cap R).res.outcome<=3/\(jG g p every keep cap R).res.dJ.length<=64:=by
 have b:∀(x:Nat) (e:Int) (Q:Rk),(⟨fO,x,e,Q⟩:Out).res.outcome<=3/\(⟨fO,x,e,Q⟩:Out).res.dJ.length<=64:=λ_ _ _=>⟨Tp _,Tp _⟩
 unfold jG;split
 .exact b _ _ _
 .rename_i l;have l:pQ g p every keep cap=0:=by simpa using l
  split
  .exact b _ _ _
  .obtain⟨r,A,B,C⟩:=rh l;obtain⟨u,y⟩:=jt r;obtain⟨m,z⟩:=qG u y j;unfold EP;split
   .exact b _ _ _
   .have h:=Io (every:=every.toNat) (keep:=keep.toNat) (dd:=pW g p cap.toNat) (dp:=tE (po g p cap.toNat R)) m (show cap.toNat<=200 by omega) ((cap.toNat-tE (po g p cap.toNat R))+1) (tE (po g p cap.toNat R)) (BB g p (po g p cap.toNat R) R) ((po g p cap.toNat R).drop ((po g p cap.toNat R).length-keep.toNat)) 0 (ep R (dU R.fE ((po g p cap.toNat R).drop ((po g p cap.toNat R).length-keep.toNat)))).2 (N7 (Sp.qU (Sp.ir p) (jl g) z));exact⟨h.1,To h.2 m.FW⟩
end Ru
namespace Ru
open Sp (Pg Ed Cfg eY iM)
open Rd (Rk e0)
open Pk (jd Sm fx TP di cX dh)
open Dk (Kept)
def C9(g:V8)(j E:Nat)(R:Rk)(O:Nat->Prop)(out:Out)(dp:Nat)(w:V5)(e:Ending)(w':V5):Prop:=Small g/\(∃q m k,e=.returned (mX out.res.outcome out.res.step out.res.dG q m k dp out.saved out.e)/\w'.ownsRow w.heap.size 2 1 (J q m k) out.res.dJ.length (out.res.dJ.map (Z Y)))/\
 ∃l,jd w' j E out.R R l/\fx w O w' l
structure LC (W:V5) (B:Nat) (every keep cap:Int):Prop where
 c:W.heap[B]?=S (D #[Z Y every,Z Y keep,Z Y cap] 23 (0,0))
 x:W.heap[B+1]?=S (D #[Z .u8 0,Z Y 0,Z Y 0,J U 0 0] 32 (0,0))
 r:W.heap[B+1+1]?=S (D #[Z Y 0,Z Y 0] 43 (0,0))
variable {every keep cap:Int}{W W':V5}{B:Nat}
theorem LC.below(h:LC W B every keep cap)(hb:V4 W W'): LC W' B every keep cap:=⟨(hb.block _ (cX h.c)).trans h.c,(hb.block _ (cX h.x)).trans h.x,(hb.block _ (cX h.r)).trans h.r⟩
theorem jj(w:V5)(every keep cap:Int):∀W,W=((w.alloc (D #[Z Y every,Z Y keep,Z Y cap] 23)).alloc (D #[Z .u8 0,Z Y 0,Z Y 0,J U 0 0] 32)).alloc (D #[Z Y 0,Z Y 0] 43)->
  LC W (N (E w)) every keep cap/\V4 w W/\(N (E W))=N (E w)+3:=by
 rintro W rfl;have a:∀(W:V5) (o:Obj) (j:Nat),j<N (E W)->(W.alloc o).heap[j]?=W.heap[j]?:=λW o j h=>TD W o j h
 have n:∀(W:V5) (o:Obj) (j:Nat),j=N (E W)->(W.alloc o).heap[j]?=S o:=λW o j h=>by rw[h];exact UO W o
 refine⟨⟨?_,?_,?_⟩,?_,by simp⟩
 .rw[a _ _ _ (by simp <;> omega),a _ _ _ (by simp),n _ _ _ rfl]
 .rw[a _ _ _ (by simp),n _ _ _ (by simp)]
 .rw[n _ _ _ (by simp)]
 .exact((((Th _ w).alloc V2 _).alloc (by simp) _).alloc (by simp <;> omega) _)
structure uO (W W':V5) (B:Nat) (a b c d f s:V6):Prop where
 kept:Kept W W' (λk=>k≠B+1/\k≠B+1+1)
 x:W'.heap[B+1]?=S (D #[a,b,c,d] 32 (0,0))
 r:W'.heap[B+1+1]?=S (D #[f,s] 43 (0,0))
theorem Mx{r u y z l m:V6}(A:W.heap[B+1]?=S (D #[r,u,y,z] 32 (0,0)))(C:W.heap[B+1+1]?=S (D #[l,m] 43 (0,0)))(a b c d f s:V6):uO W ((((((W.setCell ⟨B+1,0,U⟩ a).setCell ⟨B+1,1,U⟩ b).setCell ⟨B+1,2,U⟩ c).setCell ⟨B+1,3,U⟩ d).setCell ⟨B+1+1,0,U⟩ f).setCell ⟨B+1+1,1,U⟩ s) B a b c d f s:=by
 have F:=Tq W _ 0 _ _ a A;have G:=Tq _ _ 1 _ _ b F;have I:=Tq _ _ 2 _ _ c G;have K:=Tq _ _ 3 _ _ d I;have j:B+1+1≠B+1:=by omega
 have L:((((W.setCell ⟨B+1,0,U⟩ a).setCell ⟨B+1,1,U⟩ b).setCell ⟨B+1,2,U⟩ c).setCell ⟨B+1,3,U⟩ d).heap[B+1+1]?=S (D #[l,m] 43 (0,0)):=by
  rw[Tv _ _ _ _ j,Tv _ _ _ _ j,Tv _ _ _ _ j,Tv _ _ _ _ j];exact C
 have M:=Tq _ _ 0 _ _ f L;have P:=Tq _ _ 1 _ _ s M;refine⟨((((((Kept.refl W _).setCell (λe=>e.1 O) _).setCell (λe=>e.1 O) _).setCell (λe=>e.1 O) _).setCell (λe=>e.1 O) _).setCell (λe=>e.2 O) _).setCell (λe=>e.2 O) _,?_,?_⟩
 .rw[Tv _ _ _ _ (UC j),Tv _ _ _ _ (UC j),K];rfl
 .rw[P];rfl
theorem QF{l m r u y z:V6}(A:W.heap[B+1]?=S (D #[l,m,r,u] 32 (0,0)))(C:W.heap[B+1+1]?=S (D #[y,z] 43 (0,0)))(a b c d f s:V6):uO W ((((((W.setCell ⟨B+1+1,0,U⟩ f).setCell ⟨B+1+1,1,U⟩ s).setCell ⟨B+1,0,U⟩ a).setCell ⟨B+1,1,U⟩ b).setCell ⟨B+1,2,U⟩ c).setCell ⟨B+1,3,U⟩ d) B a b c d f s:=by
 have F:=Tq W _ 0 _ _ f C;have G:=Tq _ _ 1 _ _ s F;have j:B+1≠B+1+1:=by omega
 have I:((W.setCell ⟨B+1+1,0,U⟩ f).setCell ⟨B+1+1,1,U⟩ s).heap[B+1]?=S (D #[l,m,r,u] 32 (0,0)):=by
  rw[Tv _ _ _ _ j,Tv _ _ _ _ j];exact A
 have K:=Tq _ _ 0 _ _ a I;have L:=Tq _ _ 1 _ _ b K;have M:=Tq _ _ 2 _ _ c L;have P:=Tq _ _ 3 _ _ d M;refine⟨((((((Kept.refl W _).setCell (λe=>e.2 O) _).setCell (λe=>e.2 O) _).setCell (λe=>e.1 O) _).setCell (λe=>e.1 O) _).setCell (λe=>e.1 O) _).setCell (λe=>e.1 O) _,?_,?_⟩
 .rw[P];rfl
 .rw[Tv _ _ _ _ (UC j),Tv _ _ _ _ (UC j),Tv _ _ _ _ (UC j),Tv _ _ _ _ (UC j),G];rfl
variable {s c d a f b:V6}
theorem uO.drew(h:uO W.drew W' B a b c d f s): uO W W' B a b c d f s:=⟨⟨h.kept.os,h.kept.tape,h.kept.output,h.kept.size,h.kept.block⟩,h.x,h.r⟩
variable {n:Nat}
theorem gH{e:Array V6}(u:e[8]?=S (V9 (S ⟨B+1,0,U⟩)))(y:e[9]?=S (V9 (S ⟨B+1+1,0,U⟩))){a b c:Int}{p:Option Addr}{k dp sv:Nat}{m:Int}(r:e[10]?=S (Z Y m))(j:W.heap[B+1]?=S (D #[Z .u8 a,Z Y b,Z Y c,J p n k] 32 (0,0)))(l:W.heap[B+1+1]?=S (D #[Z Y (dp:Int),Z Y (sv:Int)] 43 (0,0))):(results f12 e).run prog W=.ok (mX a b c p n k dp sv m) W:=by
 have z:W.cell? ⟨B+1,0,U⟩=S (Z .u8 a):=by rw[Ti W _ 0 _ _ _ j];rfl
 have A:W.cell? ⟨B+1,1,U⟩=S (Z Y b):=by rw[Ti W _ 1 _ _ _ j];rfl
 have C:W.cell? ⟨B+1,2,U⟩=S (Z Y c):=by rw[Ti W _ 2 _ _ _ j];rfl
 have F:W.cell? ⟨B+1,3,U⟩=S (J p n k):=by rw[Ti W _ 3 _ _ _ j];rfl
 have G:W.cell? ⟨B+1+1,0,U⟩=S (Z Y (dp:Int)):=by rw[Ti W _ 0 _ _ _ l];rfl
 have I:W.cell? ⟨B+1+1,1,U⟩=S (Z Y (sv:Int)):=by rw[Ti W _ 1 _ _ _ l];rfl
 clear j l;unfold mX
 simp_all [results,results12,go_sem,Value.oneCell']
variable {w:V5}
theorem uO.stays{j E:Nat}{Q R:Rk}{O0 O:Nat->Prop}(h:uO W W' w.heap.size a b c d f s)(hb:LC W w.heap.size every keep cap)(h2:jd W j E Q R O)(l:fx w O0 W O): jd W' j E Q R O/\fx w O0 W' O:=by
 have u:=l.kept.size;have y:∀k,O k->k≠w.heap.size+1/\k≠w.heap.size+1+1:=λk m=>⟨λe=>nV h2 hb.x (by decide) (e ▸ m),λe=>nV h2 hb.r (by decide) (e ▸ m)⟩
 refine⟨oY h2 h.kept y,⟨⟨h.kept.os.trans l.kept.os,h.kept.tape.trans l.kept.tape,h.kept.output.trans l.kept.output,To u h.kept.size,λk m z=>?_⟩,l.own⟩⟩;rw[h.kept.block k (by omega) ⟨by omega,by omega⟩];exact l.kept.block k m z
theorem uO.row{e j:Nat}{v:V6}{l:List V6}(h:uO W W' (N (E w)) a b c d f s)(hb:LC W (N (E w)) every keep cap)(m:W.ownsRow B e j v n l)(he:e≠32/\e≠43): W'.ownsRow B e j v n l:=Dk.dy m h.kept λg y=>by
  obtain⟨z,u,_⟩:=di m y;exact⟨dh u hb.x he.1,dh u hb.r he.2⟩
theorem F7{r wr:V5}{O u:Nat->Prop}{j:Nat}{v v':V6}(hb:V4 w r)(l:fx r (OO O j v) wr (OO u j v'))(hS:∀k,qH j v k->N (E w)<=k): fx w O wr u:=by
 have y:=hb.size;refine⟨⟨l.kept.os.trans hb.os,l.kept.tape.trans hb.tape,l.kept.output.trans hb.output,To y l.kept.size,λk m z=>?_⟩,λk m=>?_⟩
 .refine(l.kept.block k (by omega) (λe=>?_)).trans (hb.block k m);rcases e with e|e
  .exact z e
  .have:=hS k e;omega
 .rcases l.own k (Wh m) with e|e
  .rcases e with e|e
   .exact Wh e
   .exact Wi (hS k e)
  .exact Wi (by omega)
theorem RG{T:Sn.Tb}{Q:Rk}{g p:V8}(l:(jl g).length=n)(he:∀x∈T,qd w 0 Q.rd n x):(T=[]/\tE (T.map (·.1))=0/\BB g p (T.map (·.1)) Q=Sp.fX (Sp.ir p) (jl g))\/(∃j x,T=j++[(tE (T.map (·.1)),x)]/\BB g p (T.map (·.1)) Q=fw Q.rd n (tE (T.map (·.1)))/\qd w 0 Q.rd n (tE (T.map (·.1)),x)):=by
 rcases VB T with h|⟨j,⟨s,x⟩,h⟩
 .subst h;exact Wh ⟨O,O,by unfold BB;rw[Tg (by rfl)]⟩
 .rw[VC] at h;subst h;have e:tE ((j++[(s,x)]).map (·.1))=s:=by rw[UD];exact vh _ _
  refine Wi ⟨j,x,by rw[e],?_,by rw[e];exact he _ (by simp)⟩;unfold BB;rw[Tf (by simp),l]
theorem Oz{T:Sn.Tb}(h:Sn.dj T):∀x∈T,x.1<=tE (T.map (·.1)):=by
 rcases VB T with e|⟨j,⟨s,x⟩,e⟩
 .subst e;intro x l;cases l
 .rw[VC] at e;subst e;have e:tE ((j++[(s,x)]).map (·.1))=s:=by rw[UD];exact vh _ _
  rw[e];exact La h
theorem GN{w':V5}{F:V8->V8}{x:Nat × Sn.Ce}(h:qd w B F n x)(hb:V4 w w'): qd w' B F n x:=⟨h.1,h.2.1,de h.2.2 hb⟩
end Ru
namespace Ru
open Sp (Pg Ed Cfg eY iM)
open Rd (Rk e0)
open Pk (jd Sm fx TP di cX dh)
open Dk (Kept)
theorem rN(W:V5)(a b c:Int)(r:Bool)(h:Hid ((decide (b<=a)&&decide (a<=c))=r)):V7 prog 23 #[Z Y a,Z Y b,Z Y c] W λe j=>e=.returned (.bool r)/\j=W:=by
 have:=yo a b c W;rw[cT h] at this;exact this
theorem BF(j E nn b:Nat)(Q R:Rk)(O:Nat->Prop)(g p:V8)(every keep cap:Int)(z f:Addr)(w:V5)(h2:jd w j E Q R O)(bg:Sm Q nn b)(bW:nn+2000<=1000000000)(bX:1000<=b)(bh:b<=2097152)(hg:g.size<=1048576)(hp:p.size<=1048576)(hT:Lib.Utf8Tabs 3 4 w)(hC:lL w)(bj:j6 w z f)(bk:fN w)(bn:∀k,(k=1\/k=2\/k=z.block\/k=f.block\/k=6)->¬O k):V7 prog 12 #[V9 (S ⟨j,0,U⟩),H g,H p,.agg #[Z Y every,Z Y keep,Z Y cap]] w (C9 g j E R O (jG g p every keep cap Q) (pS g p every keep cap Q) w):=by
 generalize hO:C9 g j E R O (jG g p every keep cap Q) (pS g p every keep cap Q) w=PP;replace hO:=cU hO;have bo:=cU (jj w every keep cap);have bp:=cU (λW (hb:V4 w W)=>Bj g p W (eN hT hb) (hC.below hb));have H2:=cU h2;have bq:=cU bg;have av:=cU bj;have aF:=cU bk;have br:=cU bn;clear h2 bg bj bk bn hT hC;go_enter func12,ntmps12;go_wp2_with fail;generalize hW:World.alloc (World.alloc _ _) _=W0;obtain⟨aw,aG,aT⟩:=cT bo W0 hW.symm;clear hW bo;refine(cT bp W0 aG).mono ?_;rintro e w1 ⟨ad,bs,p0,n0,k0,p1,n1,k1,p2,n2,k2,pv,rfl,bu⟩;obtain⟨ra,o⟩:∃ra,Hid (iL g p=ra):=⟨_,rfl⟩
 rw[cT o];have bw:=cU bu;have aH:=cU bs;clear bu bs bp;go_upto_region 2 with fail;generalize aU:World.alloc _ _=C;have aV:V4 w1 C:=by rw[<-aU];exact V3.alloc V2 _
 have bx:C.heap[w1.heap.size]?=S (D #[J p0 n0 k0,J p1 n1 k1,J p2 n2 k2] 68 (0,0)):=by rw[<-aU];exact Tk w1 _
 have ax:V4 W0 C:=ad.trans (aV.mono ad.size);have K:=cU (aw.below ax);have M:=cU (aG.trans (ax.mono aG.size));have bA:Hid (w.heap.size+3<=w1.heap.size):=by have:=ad.size;show _<=_;omega
 have bY:=cU aT;have aW:=cU aV;have au:=cU bx;clear aU aG aw ad aV bx ax aT;have aX:Hid (∀(W W':V5) (er:Int),V4 w W->LC W w.heap.size every keep cap->uO W W' w.heap.size (Z .u8 0) (Z Y 0) (Z Y 0) (J U 0 0) (Z Y 0) (Z Y 0)->jG g p every keep cap Q=⟨fO,0,er,Q⟩/\pS g p every keep cap Q=0->PP (.returned (mX 0 0 0 U 0 0 0 0 er)) W'):=by
  show ∀W W' er,_
  intro W W' er hb hx he hr;rw[<-cT hO,hr.1,hr.2];obtain⟨t1,t2⟩:=he.stays hx ((cT H2).below hb) (fx.below O hb);exact⟨cT aH,⟨U,0,0,rfl,TH _ _ _ _⟩,O,t1,t2⟩
 have x0:∀(W:V5),LC W w.heap.size every keep cap->(W.cell? ⟨w.heap.size+1,0,U⟩=S (Z .u8 0)/\W.cell? ⟨w.heap.size+1,1,U⟩=S (Z Y 0)/\W.cell? ⟨w.heap.size+1,2,U⟩=S (Z Y 0)/\W.cell? ⟨w.heap.size+1,3,U⟩=S (J U 0 0)/\W.cell? ⟨w.heap.size+1+1,0,U⟩=S (Z Y 0)/\W.cell? ⟨w.heap.size+1+1,1,U⟩=S (Z Y 0))/\(∀i,W.frozen? ⟨w.heap.size+1,i,U⟩=false)/\(∀i,W.frozen? ⟨w.heap.size+1+1,i,U⟩=false)/\(W.cell? ⟨w.heap.size,0,U⟩=S (Z Y every)/\W.cell? ⟨w.heap.size,1,U⟩=S (Z Y keep)/\W.cell? ⟨w.heap.size,2,U⟩=S (Z Y cap)):=λW h=>by
  refine⟨⟨?_,?_,?_,?_,?_,?_⟩,λi=>by simp[World.frozen?,h.x],λi=>by simp[World.frozen?,h.r],?_,?_,?_⟩
  .rw[Ti W _ 0 _ _ _ h.x];rfl
  .rw[Ti W _ 1 _ _ _ h.x];rfl
  .rw[Ti W _ 2 _ _ _ h.x];rfl
  .rw[Ti W _ 3 _ _ _ h.x];rfl
  .rw[Ti W _ 0 _ _ _ h.r];rfl
  .rw[Ti W _ 1 _ _ _ h.r];rfl
  .rw[Ti W _ 0 _ _ _ h.c];rfl
  .rw[Ti W _ 1 _ _ _ h.c];rfl
  .rw[Ti W _ 2 _ _ _ h.c];rfl
 have aj:=cU x0;clear x0;by_cases c1:ra=0
 rotate_left
 .have b4:(ra != 0)=true:=by rw[UZ];exact c1
  have HE:Hid (jG g p every keep cap Q=⟨fO,0,ra,Q⟩/\pS g p every keep cap Q=0):=by
   show _/\_
   have e1:pQ g p every keep cap=ra:=by unfold pQ;rw[Tg (by rw[cT o];exact c1),cT o]
   unfold jG pS;rw[e1,Tg c1,Tg c1];exact⟨rfl,rfl⟩
  obtain⟨⟨r0,r1,r2,r3,s0,s1⟩,rf,sf,_⟩:=cT aj C (cT K);have he:=Mx (cT K).x (cT K).r (Z .u8 0) (Z Y 0) (Z Y 0) (J U 0 0) (Z Y 0) (Z Y 0);have ak:=cU (cT aX C _ ra (cT M) (cT K) he (cT HE));have I:=cU he;clear c1 he;go_wp2;exact Tj (gH (by rfl) (by rfl) (by rfl) (cT I).x (cT I).r) rfl (cT ak)
 subst c1;by_cases c2:(1<=every/\every<=50)/\(1<=keep/\keep<=5)/\(0<=cap/\cap<=200)
 rotate_left
 .have HE:Hid (jG g p every keep cap Q=⟨fO,0,8,Q⟩/\pS g p every keep cap Q=0):=by
   show _/\_
   have e1:pQ g p every keep cap=8:=by unfold pQ;rw[Tf (by rw[cT o];simp),Tg c2]
   unfold jG pS;rw[e1,Tg (by decide),Tg (by decide)];exact⟨rfl,rfl⟩
  obtain⟨⟨r0,r1,r2,r3,s0,s1⟩,rf,sf,q0,q1,q2⟩:=cT aj C (cT K);have he:=Mx (cT K).x (cT K).r (Z .u8 0) (Z Y 0) (Z Y 0) (J U 0 0) (Z Y 0) (Z Y 0);have ak:=cU (cT aX C _ 8 (cT M) (cT K) he (cT HE));have I:=cU he;clear he;obtain⟨d1,E1⟩:∃d,Hid ((decide (1<=every)&&decide (every<=50))=d):=⟨_,rfl⟩
  obtain⟨d2,E2⟩:∃d,Hid ((decide (1<=keep)&&decide (keep<=5))=d):=⟨_,rfl⟩
  obtain⟨d3,E3⟩:∃d,Hid ((decide (0<=cap)&&decide (cap<=200))=d):=⟨_,rfl⟩
  cases d1 with
  |false =>
   clear c2;go_wp2_with (go_at_call 23;go_must (refine(rN _ _ _ _ _ (by assumption)).mono ?_);rintro e y ⟨rfl,an⟩;obtain rfl:=an.symm);exact Tj (gH (by rfl) (by rfl) (by rfl) (cT I).x (cT I).r) rfl (cT ak)
  |true =>
   cases d2 with
   |false =>
    clear c2;go_wp2_with (go_at_call 23;go_must (refine(rN _ _ _ _ _ (by assumption)).mono ?_);rintro e y ⟨rfl,an⟩;obtain rfl:=an.symm);exact Tj (gH (by rfl) (by rfl) (by rfl) (cT I).x (cT I).r) rfl (cT ak)
   |true =>
    cases d3 with
    |false =>
     clear c2;go_wp2_with (go_at_call 23;go_must (refine(rN _ _ _ _ _ (by assumption)).mono ?_);rintro e y ⟨rfl,an⟩;obtain rfl:=an.symm);exact Tj (gH (by rfl) (by rfl) (by rfl) (cT I).x (cT I).r) rfl (cT ak)
    |true =>
     exfalso;have a1:=cT E1;have a2:=cT E2;have a3:=cT E3;simp only[Vl,decide_eq_true_eq] at a1 a2 a3;exact c2 ⟨a1,a2,a3⟩
 obtain⟨ev,rfl⟩:∃ev:Nat,every=(ev:Int):=⟨every.toNat,by omega⟩
 obtain⟨s,rfl⟩:∃s:Nat,keep=(s:Int):=⟨keep.toNat,by omega⟩
 obtain⟨A,rfl⟩:∃A:Nat,cap=(A:Int):=⟨cap.toNat,by omega⟩
 have E1:Hid ((decide (1<=(ev:Int))&&decide ((ev:Int)<=50))=true):=by show _=_;simp;omega
 have E2:Hid ((decide (1<=(s:Int))&&decide ((s:Int)<=5))=true):=by show _=_;simp;omega
 have E3:Hid ((decide (0<=(A:Int))&&decide ((A:Int)<=200))=true):=by show _=_;simp;omega
 have l1:0<ev/\ev<=50:=by omega
 have l2:0<s/\s<=5:=by omega
 have l3:A<=200:=by omega
 have aY:Hid (pQ g p ev s A=0):=by show _=_;unfold pQ;rw[Tf (by rw[cT o];simp),Tf (by omega)]
 have HL:=cU (And.intro l1 (And.intro l2 l3));clear c2 l1 l2 l3;obtain⟨_,_,_,q0,q1,q2⟩:=cT aj C (cT K);obtain⟨m1,m2,m3,bB,bC,B,rfl,aM⟩:=cT bw (cT o);subst m1 m2 m3;have bD:=cU bB;have bE:=cU bC;have aN:=cU aM;clear bB bC aM bw;obtain⟨n,HN⟩:∃n,Hid ((jl g).length=n):=⟨_,rfl⟩
 obtain⟨ne,aO⟩:∃ne,Hid ((pP g).length=ne):=⟨_,rfl⟩
 rw[cT HN,cT aO] at au;rw[cT HN];obtain⟨GB,bF⟩:∃GB,Hid (w1.heap.size=GB):=⟨_,rfl⟩
 rw[cT bF] at au ⊢;obtain⟨g0,g1,g2,gf⟩:=eh (cT au);clear gf;go_upto_region 6 with (go_at_call 23;go_must (refine(rN _ _ _ _ _ (by assumption)).mono ?_);rintro e y ⟨rfl,an⟩;obtain rfl:=an.symm)
 clear q0 q1 q2 g0 g1 g2 E1 E2 E3;have aP:n<=64:=by rw[<-cT HN];exact(qG (jt (cT o)).1 (jt (cT o)).2 (cT aH)).1.FW
 have aI:=cU (λW (hW:V4 C W)=>Ac g p A n W hg hp (cT HL).2.2 ((cT aF).below ((cT M).trans (hW.mono (cT M).size))));have ay:=cU (λW (hW:V4 C W)=>zR j E nn b (pW g p A) n s Q R O W ((cT H2).below ((cT M).trans (hW.mono (cT M).size))) (cT bq) (by omega) bh aP (Fk _ _ _) ((cT aF).below ((cT M).trans (hW.mono (cT M).size))));obtain⟨js,aJ⟩:∃js,Hid (pW g p A=js):=⟨_,rfl⟩
 rw[cT aJ] at aI ay;unfold CA at ay;have bZ:js<4294967296:=by rw[<-cT aJ];exact Fk _ _ _
 have az:Hid (∀(args:Array V6) (w:V5),(callFunc 31 args).run prog w=.ok (.enter 31 args) w):=da func31 (by kernel_rfl) (by kernel_rfl);have aA:Hid (∀(args:Array V6) (w:V5),(callFunc 30 args).run prog w=.ok (.enter 30 args) w):=da func30 (by kernel_rfl) (by kernel_rfl);obtain⟨_,_,_,q0,q1,q2⟩:=cT aj C (cT K);obtain⟨g0,g1,g2,gf⟩:=eh (cT au);clear gf q0 g0 g2;have bG:=cX (cT K).c;have aK:Hid (V4 C C.drew):=V3.drew;by_cases c3:Q.nB=0
 rotate_left
 .apply vk (λw'=>Hid (V4 C w'));apply Exists.intro;apply And.intro
  case left =>
   go_region_law (first
   |(refine du (by rfl) _ _ _ (by rfl) 31 (by rfl) _ (by rfl) (cT az) (cT aI _ (by first|exact Th _ _|exact cT aK)) ?_;rintro e y ⟨rfl,F⟩;dsimp only;have P:V4 C y:=(by first|exact F|exact(cT aK).trans (F.mono V2));have L:=cU P;have i1:=(P.cell (p:=⟨w.heap.size,1,U⟩) bG).trans q1;clear P F)
   |(refine du (by rfl) _ _ _ (by rfl) 30 (by rfl) _ (by rfl) (cT aA) (cT ay y (cT L)) ?_;rintro e wr ⟨ae,bH,_⟩;obtain rfl:=bH c3;dsimp only;have aa:Hid (V4 C wr):=(cT L).trans (ae.mono (cT L).size);clear ae bH))
   all_goals exact⟨rfl,rfl,aa⟩
  case right =>
  rintro w3 af;obtain⟨le,bI⟩:∃le,Hid (Q.nB=le):=⟨_,rfl⟩
  have HE:Hid (jG g p ev s A Q=⟨fO,0,le,Q⟩/\pS g p ev s A Q=0):=by
   show _/\_
   unfold jG pS;rw[Tf (by rw[cT aY];simp),Tg c3,Tf (by rw[cT aY];simp),Tg c3,cT bI];exact⟨rfl,rfl⟩
  rw[cT bI] at c3 ⊢;have b5:(le != 0)=true:=by rw[UZ];exact c3
  have ag:=cU ((cT K).below (cT af));have ah:=cU ((cT M).trans ((cT af).mono (cT M).size));clear q1 q2 g1;obtain⟨⟨r0,r1,r2,r3,s0,s1⟩,rf,sf,_⟩:=cT aj w3 (cT ag);have he:=Mx (cT ag).x (cT ag).r (Z .u8 0) (Z Y 0) (Z Y 0) (J U 0 0) (Z Y 0) (Z Y 0);have ak:=cU (cT aX w3 _ le (cT ah) (cT ag) he (cT HE));have I:=cU he;clear c3 he;go_wp2;exact Tj (gH (by rfl) (by rfl) (by rfl) (cT I).x (cT I).r) rfl (cT ak)
 apply uM (λu w'=>∃l v T,u=V9 (S ⟨l,0,U⟩)/\Hid (V4 C w')/\Hid (C.heap.size<=l/\gK w' l j js n s v T/\(∀g,v.ownBlock=S g->C.heap.size<=g)/\T.map (·.1)=og (fS Q.rd n js Q.fE)/\∀x∈T,qd w' 0 Q.rd n x));apply Exists.intro;apply And.intro
 case left =>
  go_region_law (first
  |(refine du (by rfl) _ _ _ (by rfl) 31 (by rfl) _ (by rfl) (cT az) (cT aI _ (by first|exact Th _ _|exact cT aK)) ?_;rintro e y ⟨rfl,F⟩;dsimp only;have P:V4 C y:=(by first|exact F|exact(cT aK).trans (F.mono V2));have L:=cU P;have i1:=(P.cell (p:=⟨w.heap.size,1,U⟩) bG).trans q1;clear P F)
   | (refine du (by rfl) _ _ _ (by rfl) 30 (by rfl) _ (by rfl) (cT aA) (cT ay y (cT L)) ?_;rintro e wr ⟨ae,_,aQ⟩;obtain⟨l,v,T,rfl,k1,k2,k3,k4,k5,k6⟩:=aQ c3;dsimp only;have aa:Hid (V4 C wr):=(cT L).trans (ae.mono (cT L).size);have b0:Hid (C.heap.size<=l/\gK wr l j js n s v T/\(∀g,v.ownBlock=S g->C.heap.size<=g)/\T.map (·.1)=og (fS Q.rd n js Q.fE)/\∀x∈T,qd wr 0 Q.rd n x):=⟨To (cT L).size k1,k2,λg hg=>To (cT L).size (k3 g hg),k4,λx hx=>⟨(k5 x hx).1,(k5 x hx).2.1,Rd.mj (k5 x hx).2.2 (Tp _)⟩⟩;clear ae aQ k1 k2 k3 k4 k5 k6))
  all_goals
   generalize hu:Value.pointer (S ⟨l,0,U⟩)=u at *;exact⟨rfl,u,rfl,l,v,T,hu.symm,aa,b0⟩
 case right =>
 rintro u w3 ⟨l,v,T,rfl,af,ai⟩;clear q1 q2 g1 aI ay az aA;have ag:=cU ((cT K).below (cT af));have ah:=cU ((cT M).trans ((cT af).mono (cT M).size));obtain⟨_,_,_,q0,q1,q2⟩:=cT aj w3 (cT ag);obtain⟨g0,g1,g2,gf⟩:=eh (((cT af).block _ (cX (cT au))).trans (cT au));clear gf q1;obtain⟨aZ,bJ⟩:=qG (jt (cT o)).1 (jt (cT o)).2 (cT aH);have bK:Hid (iM (Sp.ir p) (pP g) n):=by show iM _ _ _;rw[<-cT HN];exact aZ
 have aq:Hid (V4 w1 w3):=(cT aW).trans ((cT af).mono (cT aW).size);have a6:=cU (λW (hW:V4 w3 W)=>vP p0 n k0 p1 k1 p2 k2 B A (pP g) W ((cT bE).below ((cT aq).trans (hW.mono (cT aq).size))) aP aZ.es (λx hx=>((cT bK).ed x hx).1));rw[cT aO] at a6;unfold yV dY at a6;have bL:Hid (eY n (BB g p (T.map (·.1)) Q)):=by show eY _ _;rw[<-cT HN];exact N7 (Sp.qU (Sp.ir p) (jl g) bJ)
 obtain⟨fr,aB⟩:∃fr,Hid (tE (T.map (·.1))=fr):=⟨_,rfl⟩
 obtain⟨G,aC⟩:∃G,Hid (jG g p ev s A Q=G):=⟨_,rfl⟩
 have a7:Hid (po g p A Q=T.map (·.1)):=by show _=_;unfold po;rw[cT HN,cT aJ];exact(cT ai).2.2.2.1.symm
 have bM:fr<=4294967295:=by rw[<-cT aB,<-cT a7];exact P7
 have a8:Hid (EP (Sp.ir p) (pP g) A ev s js n fr (BB g p (T.map (·.1)) Q) ((T.drop (T.length-s)).map (·.1)) Q=G/\pS g p ev s A Q=fr):=by
  have h:=y9 (cT aY) c3 (cT a7)
  show _/\_
  rw[<-cT aC,h.1,h.2,cT aB,cT aJ,cT HN,Ue,List.map_drop];exact⟨rfl,rfl⟩
 have aD:Hid (∀k,qH l v k->C.heap.size<=k/\k<w3.heap.size):=λk hk=>by
  refine⟨?_,(cT ai).2.1.jI hk⟩;rcases hk with rfl|e
  .exact(cT ai).1
  .exact(cT ai).2.2.1 k e
 have ba:Hid (w.heap.size+3<=C.heap.size/\w1.heap.size<=C.heap.size/\C.heap.size<=w3.heap.size):=by
  have h1:=cT bA;have h2:=(cT aW).size;exact⟨by omega,h2,(cT af).size⟩
 have bN:Hid (∀y,V4 w3 y->ot y j E l js n s Q R O v T):=λy hq=>by
  have ao:=(cT ah).trans (hq.mono (cT ah).size);have hz:=cT ba;refine⟨(cT H2).below ao,(cT ai).2.1.below hq,λk hk hs=>?_,(cT aF).below ao,λbc=>?_⟩
  .have h1:=(cT H2).lt hk;have h2:=(cT aD k hs).1;omega
  .rcases bc with e|e
   .exact cT br _ (Wi (Wi (Wi (Wi rfl)))) e
   .have h1:=(cT aD _ e).1;have h2:=(cT aF).lt;omega
 have bd:Hid (∀(y:V5) (pe:Option Addr) (ke:Nat),V4 w3 y->LG w3.heap.size y.heap.size y pe n (pP g)->V7 prog 32 #[.agg #[V9 (S ⟨B,0,U⟩),J p1 n k1,J pe n ke,Z Y (A:Int)],V9 (S ⟨l,0,U⟩),Z Y (ev:Int)] y (ME j E l js n s fr R O v G y)):=by
  show ∀y pe ke,_
  intro y pe ke hq aL;have X:=cT bN y hq;have ao:=(cT ah).trans (hq.mono (cT ah).size);have aR:=(cT aq).trans (hq.mono (cT aq).size);have hz:=cT ba;have aT:=cT bY;have bO:=RG (g:=g) (p:=p) (cT HN) (λx hx=>GN ((cT ai).2.2.2.2 x hx) hq);rw[cT aB] at bO;have bP:=Iz X ((cT aN).below aR) aL ((cT av).below ao) (λk hk=>by have:=(cT H2).lt hk;omega) (λk hk=>by have:=cT aD k hk;omega) (by have:=cT bA;omega) (by omega) V2 (λk hk bc=>by
   have b6:k<w.heap.size:=by
    rcases hk with rfl|rfl|rfl|rfl
    .exact(cT av).lz
    .exact(cT av).lf
    .obtain⟨c,t,hz⟩:=(cT av).bz;exact cX hz
    .obtain⟨c,t,hz⟩:=(cT av).bf;exact cX hz
   rcases bc with e|e
   .exact cT br k (by rcases hk with h|h|h|h;exact Wh h;exact Wi (Wh h);exact Wi (Wi (Wh h));exact Wi (Wi (Wi (Wh h)))) e
   .have:=(cT aD k e).1;omega)
  have b1:∀x∈T,x.1<=fr:=by rw[<-cT aB];exact Oz (cT ai).2.1.tab.me
  have h:=CE j E l js n s ev A B p1 k1 pe ke (Sp.ir p) (pP g) z f (jl g) fr (BB g p (T.map (·.1)) Q) nn b Q R O v T y X bO bP ((cT bD).below aR) (cT HN) (cT bL) (cT bK) (cT HL).2.2 bZ (cT HL).1.1 (cT HL).1.2 b1 bM (cT bq) bW bX bh (cT HL).2.1.2 c3;rw[(cT a8).1] at h;unfold dY at h;exact h
 have bQ:Hid (∀(args:Array V6) (w:V5),(callFunc 24 args).run prog w=.ok (.enter 24 args) w):=da func24 (by kernel_rfl) (by kernel_rfl);have bR:Hid (∀(args:Array V6) (w:V5),(callFunc 32 args).run prog w=.ok (.enter 32 args) w):=da func32 (by kernel_rfl) (by kernel_rfl);have b2:=cX (cT ag).c;have bS:Hid (V4 w3 w3.drew):=V3.drew;have aS:Hid (∀(y wr W':V5) (q:Option Addr) (m k:Nat) (O':Nat->Prop) (v':V6) (T':Sn.Tb),V4 w3 y->wr.ownsRow y.heap.size 2 1 (J q m k) G.res.dJ.length (G.res.dJ.map (Z Y))->ot wr j E l js n s G.R R O' v' T'->fx y (OO O l v) wr (OO O' l v')->uO wr W' w.heap.size (Z .u8 G.res.outcome) (Z Y G.res.step) (Z Y G.res.dG) (J q m k) (Z Y (fr:Int)) (Z Y (G.saved:Int))->LC wr w.heap.size ev s A->PP (.returned (mX G.res.outcome G.res.step G.res.dG q m k fr G.saved G.e)) W'):=by
  show ∀y wr W' q m k O' v' T',_
  intro y wr W' q m k O' v' T' hq ar X ab he aw;have ao:=(cT ah).trans (hq.mono (cT ah).size);have hz:=cT ba;have hs:=F7 ao ab (λk hk=>by have:=(cT aD k hk).1;omega);obtain⟨t1,t2⟩:=he.stays aw X.two hs;rw[<-cT hO,cT aC,(cT a8).2];exact⟨cT aH,⟨q,m,k,rfl,he.row aw (Rd.mj ar ao.size) (by decide)⟩,O',t1,t2⟩
 have bT:Hid (∀(y wr:V5) (O':Nat->Prop) (v':V6),V4 w3 y->fx y (OO O l v) wr (OO O' l v')->LC wr w.heap.size ev s A):=λy wr O' v' hq ab=>by
  have X:=cT bN y hq;have hb:=(cT ag).below hq;exact⟨(ab.far (cX hb.c) (je X hb.c (by decide))).1.trans hb.c,(ab.far (cX hb.x) (je X hb.x (by decide))).1.trans hb.x,(ab.far (cX hb.r) (je X hb.r (by decide))).1.trans hb.r⟩
 clear aZ bJ bM bL a7 a8 aC aB aN bD bE c3 ai;unfold ME at bd;obtain⟨⟨oc,st,vt,V⟩,sv,er,RN⟩:=G;dsimp only at bd aS;go_upto_region 9 with fail
 go_region_law (first
 |(refine du (by rfl) _ _ _ (by rfl) 24 (by rfl) _ (by rfl) (cT bQ) (cT a6 _ (by first|exact Th _ _|exact cT bS)) ?_;rintro e y ⟨F,pe,ke,rfl,aL⟩;dsimp only;have P:V4 w3 y:=(by first|exact F|exact(cT bS).trans (F.mono V2));have L:=cU P;have b3:Hid (LG w3.heap.size y.heap.size y pe n (pP g)):=aL;have i0:=(P.cell (p:=⟨w.heap.size,0,U⟩) b2).trans q0;clear P F aL)
  | (refine du (by rfl) _ _ _ (by rfl) 32 (by rfl) _ (by rfl) (cT bR) (cT bd y pe ke (cT L) (cT b3)) ?_;rintro e wr ⟨⟨q,m,k,rfl,ar⟩,O',v',T',X,ab⟩;unfold mX;dsimp only;have ad:=cT bT y wr O' v' (cT L) ab;obtain⟨⟨r0,r1,r2,r3,s0,s1⟩,rf,sf,_⟩:=cT aj wr ad;have aa:=cU ad;have bU:=cU (λW'=>cT aS y wr W' q m k O' v' T' (cT L) ar X ab);clear ar X ab ad))
 all_goals
  have he:=Mx (cT aa).x (cT aa).r (Z .u8 (oc:Int)) (Z Y (st:Int)) (Z Y (vt:Int)) (J q m k) (Z Y (fr:Int)) (Z Y (sv:Int));have bV:=QF (cT aa).x (cT aa).r (Z .u8 (oc:Int)) (Z Y (st:Int)) (Z Y (vt:Int)) (J q m k) (Z Y (fr:Int)) (Z Y (sv:Int));have I:=cU he;have aE:=cU bV;clear he bV;go_wp2
  first
   |exact Tj (gH (by rfl) (by rfl) (by rfl) (cT I).x (cT I).r) rfl (cT bU _ (cT I) (cT aa))
   |exact Tj (gH (by rfl) (by rfl) (by rfl) (cT aE).x (cT aE).r) rfl (cT bU _ (cT aE) (cT aa))
   |trace_state
end Ru
end Go.Proofs.YtgkkdpegcieakaaGreatDoor
