import Derived.Test.YtgkkdpegcieakaaGreatDoorCw31
import Derived.Test.YtgkkdpegcieakaaGreatDoorCw28
set_option linter.all false
set_option maxRecDepth 100000
set_option maxHeartbeats 16000000
namespace Go.Proofs.YtgkkdpegcieakaaGreatDoor
open Go.Proofs.Tryz
open Value renaming int→Z,slice→J,pointer→WV,bool→WW,tuple→WX,agg→WY
open Ending renaming returned→WZ
open Obj renaming cells→D
open Option renaming none→U,some→S
open Bool renaming false→W9
open List renaming length→Xg
open _root_.Array renaming size→K
open World renaming cell?→Xc,alloc→Xe,heap→E
open IntKind renaming i64→Y
open Go renaming World→WR,Value→WS,Calls→WT
open Go.RowKit
section
def B8(P:Sp.Pg)(b:List Int)(n:Nat)(w:WR)(e:Ending)(w':WR):Prop:=WQ w w'/\∃sl,e=WZ (WY #[Z Y 0,sl,Z Y (Sp.eR P.al)])/\w'.ownsRow (K (E w)) 104 4 sl n (jg b [] [] (List.replicate n (Sp.eR P.pB)) n)
theorem LZ(B:Nat)(pf:Option Addr)(n kf:Nat)(pe:Option Addr)(ke cY:Nat)(P:Sp.Pg)(m:List Int)(w:WR)(hp:jJ w B P)(hv:fF w Y pf m)(hl:Xg m=n)(hn:n<=64):WT prog 26 #[WY (dV B pf n kf pe ke cY)] w (B8 P m n w):=by
 obtain⟨t2,ab,ad,ae,af⟩:=UB info_vertex;generalize hO:B8 P m n w=b;replace hO:=cT hO;have HP:=cT hp;have HV:=cT hv;have HL:=cT hl;have G:=cT (re w (dV B pf n kf pe ke cY) #[Z Y 0,J U 0 0,Z Y 0] 75 80);clear hp hv hl;unfold dV at *;go_enter func26,ntmps26;go_wp2_with fail;generalize hW:Xe (Xe _ _) _=W0;obtain⟨I,L,ag,M⟩:=cS G W0 hW.symm;have ah:=cT I;have ai:=cT L;have aj:=cT M;clear hW G I L M
 go_loopw [3,9] (λvv i wr=>∃(k:Nat) (v:WS),k<=n/\i=Z Y k/\vv=v/\Hid (wr.ownsRow (K (E w)+1+1) 104 4 v k (jg m [] [] [] k))/\Below (K (E w)+1+1) W0 wr) (λ_ i _=>n-(intOf i).toNat)
 case atStart=>exact⟨0,_,Ud _,rfl,rfl,Uw _ _ _ _,T4 _ _⟩
 case round =>
  obtain⟨k,v,hk,rfl,N,HR,Q⟩:=hrel;obtain rfl:=N.symm;clear N;have z:WQ w wr:=ag.trans (Q.mono (by omega));have ak:K (E w)+1+1<=K (E wr):=by have:=Q.size;have:=cS aj;omega
  by_cases an:k<n
  .have T:(k:Int)<(n:Int):=by omega
   have g0:(0:Int)<=(k:Int):=UF _;have V:k<Xg m:=by rw[cS HL];exact an
   obtain⟨g,rfl,hg,d0⟩:=((cS HV).below z) k V;have ao:Hid (jg m [] [] [] (k+1)=jg m [] [] [] k++[Z Y m[k],WW W9,Z Y 0,Z Y 0]):=by
    show _=_
    rw[mx,Uo (l:=m),Uk V];rfl
   generalize m[k]=x0 at *;have hr:=cS HR;go_wp2_with (first
    | (at_builtin;go_must (refine wpList_append_lies _ O (.tmp 13) (.tmp 16) 78 O (K (E w)+1+1) 104 t2 _ 4 32 underlying78 ab ad ae af O (by omega) v _ _ O (hr.alloc _) ⟨K (E wr),0,U⟩ 1 1 [Z Y x0,WW W9,Z Y 0,Z Y 0] O O (We (cs := #[Z Y x0,WW W9,Z Y 0,Z Y 0]) (t:=104) (fr:=(0,0)) (T9 wr _)) (by simp[Value.oneCell']) (by omega) (by unfold maxLen;omega) (by omega) (by simp;omega) (K (E wr)+1) (by simp) ?_;intro g2 aq r A u ar W))
    |go_in)
   have y:Below (K (E w)+1+1) W0 r:=(Q.alloc ak _).grown u (by simp;omega) (λq hq=>(hr.lt q hq).1);have au:Hid (r.ownsRow (K (E w)+1+1) 104 4 (J (S ⟨g2,0,U⟩) (k+1) aq) (k+1) (jg m [] [] [] (k+1))):=by
    show World.ownsRow _ _ _ _ _ _ _
    rw[cS ao];exact A
   clear A u ar W hr;go_wp2;go_roundw
   case rel=>exact⟨k+1,_,by omega,by go_num,rfl,au,y⟩
   case measure=>simp[intOf];omega
  .obtain rfl:k=n:=by omega
   have T:¬(k:Int)<(k:Int):=by omega
   obtain⟨p,av,rfl,X⟩:=gU (all:=0) (cS HR);have HU:=cT (ES B pf k kf pe ke cY 0 p k av P ⟨m,[],[],[],0⟩ wr ((cS HP).below z) X hn);have s:wr.heap[K (E w)]?=_:=(Q.block _ (by omega)).trans (cS ah);have j0:wr.cell? ⟨K (E w),0,U⟩=S (WV (S ⟨B,0,U⟩)):=by simp[Xc,s]
   have j1:wr.cell? ⟨K (E w),1,U⟩=S (J pf k kf):=by simp[Xc,s]
   have j2:wr.cell? ⟨K (E w),2,U⟩=S (J pe k ke):=by simp[Xc,s]
   have j3:wr.cell? ⟨K (E w),3,U⟩=S (Z Y cY):=by simp[Xc,s]
   have hR:wr.heap[K (E w)+1]?=_:=(Q.block _ (by omega)).trans (cS ai);have o:=cT hR;clear s hR X;unfold dV at HU;go_wp2_with fail;refine(cS HU).mono ?_;rintro e r ⟨y,sl,rfl,C⟩;have j:r.heap[K (E w)+1]?=_:=(y.block _ (by omega)).trans (cS o);have r0:r.cell? ⟨K (E w)+1,0,U⟩=S (Z Y 0):=by simp[Xc,j]
   have r1:r.cell? ⟨K (E w)+1,1,U⟩=S (J U 0 0):=by simp[Xc,j]
   have r2:r.cell? ⟨K (E w)+1,2,U⟩=S (Z Y 0):=by simp[Xc,j]
   have ax:r.frozen? ⟨K (E w)+1,0,U⟩=W9:=by simp[World.frozen?,j]
   have ay:r.frozen? ⟨K (E w)+1,1,U⟩=W9:=by simp[World.frozen?,j]
   have az:r.frozen? ⟨K (E w)+1,2,U⟩=W9:=by simp[World.frozen?,j]
   obtain⟨q0,k0,e0,_⟩:=dm C;subst e0;obtain⟨F,aa⟩:∃F,Hid (Sp.eR P.al=F):=⟨_,rfl⟩
   rw[cS aa];have aw:Hid (b (WZ (WY #[Z Y 0,J q0 k k0,Z Y F])) (fS r (K (E w)+1) (Z Y 0) (J q0 k k0) (Z Y F))):=by
    have h1:=fy (pG C (R:=K (E w)+1) (by omega) (Z Y 0) (J q0 k k0) (Z Y F)) (B:=K (E w)) (by omega)
    show b _ _
    rw[<-cS hO];exact⟨mP (z.trans (y.mono z.size)) (by omega) _ _ _,_,by rw[cS aa],h1⟩
   clear j C y o HU;go_wp2;exact T8 (v := WY #[Z Y 0,J q0 k k0,Z Y F]) (by simp[results,results26,go_sem,r0,r1,r2]) O (cS aw)
end
section
structure II (w:WR) (C B:Nat) (p:Option Addr) (cap n:Nat) (step all:Int) (V:List Int) (R:List Bool) (G I:List Int):Prop where
 c0:w.cell? ⟨C,0,U⟩=S (Z Y step)
 c1:w.cell? ⟨C,1,U⟩=S (J p n cap)
 c2:w.cell? ⟨C,2,U⟩=S (Z Y all)
 fz:∀j,w.frozen? ⟨C,j,U⟩=W9
 o:w.ownsRow B 104 4 (J p n cap) n (jg V R G I n)
 ne:(Value.slice p n cap).ownBlock≠S C
theorem II.lt{w:WR}{C B cap n:Nat}{p:Option Addr}{step all:Int}{V:List Int}{R:List Bool}{G I:List Int}(h:II w C B p cap n step all V R G I):C<K (E w):=Ui w _ h.c0
theorem II.below{w w':WR}{C B cap n:Nat}{p:Option Addr}{step all:Int}{V:List Int}{R:List Bool}{G I:List Int}(h:II w C B p cap n step all V R G I)(hb:WQ w w'):II w' C B p cap n step all V R G I:=⟨(hb.cell (p:=⟨C,0,U⟩) h.lt).trans h.c0,(hb.cell (p:=⟨C,1,U⟩) h.lt).trans h.c1,(hb.cell (p:=⟨C,2,U⟩) h.lt).trans h.c2,λj=>(hb.frozen (p:=⟨C,j,U⟩) h.lt).trans (h.fz j),dd h.o hb,h.ne⟩
theorem II.TS{w:WR}{C B g cap n:Nat}{step all:Int}{V:List Int}{R:List Bool}{G I:List Int}(h:II w C B (S ⟨g,0,U⟩) cap n step all V R G I):oF w C B g cap n step all V R G I:=⟨h.c0,h.c1,h.c2,h.fz,h.o,λe=>h.ne (by rw[e];rfl)⟩
theorem oF.TU{w:WR}{C B g cap n:Nat}{step all:Int}{V:List Int}{R:List Bool}{G I:List Int}(h:oF w C B g cap n step all V R G I):II w C B (S ⟨g,0,U⟩) cap n step all V R G I:=⟨h.c0,h.c1,h.c2,h.fz,h.o,λe=>by have b:S g=S C:=e;injection b with b;exact h.ne b⟩
theorem II.form{w:WR}{C B cap n:Nat}{p:Option Addr}{step all:Int}{V:List Int}{R:List Bool}{G I:List Int}(h:II w C B p cap n step all V R G I)(b:0<n):∃g,p=S ⟨g,0,U⟩/\B<=g/\g<K (E w):=Ma h.o O b
theorem GU{V V':List Int}{R R':List Bool}{G G' I I':List Int}{n:Nat}(e:∀k,k<n->V.getD k 0=V'.getD k 0)(j:∀k,k<n->R.getD k W9=R'.getD k W9)(l:∀k,k<n->G.getD k 0=G'.getD k 0)(hi:∀k,k<n->I.getD k 0=I'.getD k 0):jg V R G I n=jg V' R' G' I' n:=by
 unfold jg;apply kr;intro m b;rw[VT] at b;rw[e m b,j m b,l m b,hi m b]
structure S2 (W0 wr:WR) (C B:Nat) (p:Option Addr) (cap n:Nat) (P:Sp.Pg) (Es:List Sp.Ed) (c:Sp.Cfg) (step k:Nat) (a:Sp.Acc):Prop where
 st:Sp.lI P Es c step k=.ok a
 pc:II wr C B p cap n ((step:Int)+1) a.all (a.val++c.val.drop k) (a.fC++c.fC.drop k) ((List.range n).map (Sp.hZ a.dX)) ((List.range n).map (Sp.ig P a.dX))
 lJ:Below B W0 wr
theorem S2.first{l m:WR}{n:Nat}{P:Sp.Pg}{Es:List Sp.Ed}{c:Sp.Cfg}{step:Nat}{p:Option Addr}{cap:Nat}(A:Xg c.val=n)(hb:WQ l m)(u:m.ownsRow (K (E l)) 104 4 (J p n cap) n (jg c.val c.fC [] (List.replicate n (Sp.eR P.pB)) n)):S2 l (m.alloc (D #[Z Y ((step:Int)+1),J p n cap,Z Y (Sp.eR P.al)] 80)) (K (E m)) (K (E l)) p cap n P Es c step 0 ⟨[],[],Sp.eR P.al,[]⟩:=by
 have b:=T9 m (D #[Z Y ((step:Int)+1),J p n cap,Z Y (Sp.eR P.al)] 80);refine⟨O,⟨T5 _ _ 0 _ _ (0,0) b,T5 _ _ 1 _ _ (0,0) b,T5 _ _ 2 _ _ (0,0) b,λj=>by unfold World.frozen?;rw[b];simp,?_,λe=>by have:=(u.lt _ e).2;omega⟩,hb.alloc hb.size _⟩;have y:=u.alloc (D #[Z Y ((step:Int)+1),J p n cap,Z Y (Sp.eR P.al)] 80);have z:=GU (n:=n) (V:=c.val) (R:=c.fC) (G:=[]) (I:=List.replicate n (Sp.eR P.pB)) (V':=[]++c.val.drop 0) (R':=[]++c.fC.drop 0) (G':=(List.range n).map (Sp.hZ [])) (I':=(List.range n).map (Sp.ig P [])) (λk _=>O) (λk _=>O) (λk r=>by rw[Sp.jT _ r];rfl) (λk r=>by rw[Sp.jT _ r,Uo,List.getElem?_replicate,T0 r];rfl);rw[z] at y;exact y
namespace Sp
theorem vI{α : Type}(A l:List α)(d : α){k:Nat}(e:Xg A=k)(b:k<Xg l):A++l.drop k=A++[l.getD k d]++l.drop (k+1):=by
 rw[UJ b,Uo,Uk b];simp
theorem set_drop{α : Type}(A l:List α)(x : α){k:Nat}(b:Xg A=k)(j:k<Xg l):(A++l.drop k).set k x=A++[x]++l.drop (k+1):=by
 have h:=G8 A (l.drop k) x (by intro e;have:=congrArg List.length e;simp at this;omega);rw[b] at h;rw[h,List.tail_drop]
theorem NX{P:Pg}{Es:List Ed}{c:Cfg}{i step:Nat}{t:Tn}(h:qJ P Es c i step=S t)(e:t.dX≠[]):t.dX.map Prod.fst=(iE Es i).map (·.cR):=by
 unfold qJ gY at h;split at h
 .cases h
 .split at h
  .cases h
  .split at h
   .cases h
   .rename_i j b;have l:t.dX=j:=by
     unfold nT at h;split at h
     .cases h
     .split at h
      .cases h
      .injection h with h;subst h;rfl
    rw[l] at e ⊢;split at b
    .injection b with b;exact absurd b.symm e
    .exact Ey b
end Sp
theorem S2.skip{b wr w':WR}{C B:Nat}{p:Option Addr}{cap n:Nat}{P:Sp.Pg}{Es:List Sp.Ed}{c:Sp.Cfg}{step k:Nat}{a:Sp.Acc}(h:S2 b wr C B p cap n P Es c step k a)(e:Sp.Bk n k a)(j:Sp.eY n c)(l:k<n)(r:Sp.mA c k step=W9)(hb:WQ wr w')(u:B<=K (E wr)):S2 b w' C B p cap n P Es c step (k+1) ⟨a.val++[c.val.getD k 0],a.fC++[c.fC.getD k W9],a.all,a.dX⟩:=by
 refine⟨Sp.Lj h.st r,?_,h.lJ.trans (hb.mono u)⟩;have m:=h.pc.below hb;rw[Sp.vI a.val c.val 0 e.lv (by rw[j.lv];exact l),Sp.vI a.fC c.fC W9 e.lr (by rw[j.lr];exact l)] at m;exact m
theorem S2.qJ{e w':WR}{C B g:Nat}{cap n:Nat}{P:Sp.Pg}{Es:List Sp.Ed}{c:Sp.Cfg}{step k:Nat}{a:Sp.Acc}{t:Sp.Tn}(b:Sp.lI P Es c step k=.ok a)(j:Sp.Bk n k a)(l:Sp.eY n c)(m:k<n)(u:Sp.mA c k step=true)(ht:Sp.qJ P Es c k step=S t)(h:oF w' C B g cap n ((step:Int)+1) (Sp.jt P.al a.all t.lG) ((a.val++c.val.drop k).set k t.value) ((a.fC++c.fC.drop k).set k t.gz) ((List.range n).map (Sp.hZ (a.dX++t.dX))) ((List.range n).map (Sp.ig P (a.dX++t.dX))))(hb:Below B e w'):S2 e w' C B (S ⟨g,0,U⟩) cap n P Es c step (k+1) ⟨a.val++[t.value],a.fC++[t.gz],Sp.jt P.al a.all t.lG,a.dX++t.dX⟩:=by
 refine⟨Sp.KS b u ht,?_,hb⟩;have r:=h.TU;rw[Sp.set_drop a.val c.val t.value j.lv (by rw[l.lv];exact m),Sp.set_drop a.fC c.fC t.gz j.lr (by rw[l.lr];exact m)] at r;exact r
def LC(o:Except Nat Sp.Acc)(P:Sp.Pg)(n:Nat)(step:Nat)(w:WR)(e:Ending)(w':WR):Prop:=WQ w w'/\match o with
  |.ok a=>∃sl,e=WZ (WX #[WY #[Z Y ((step:Int)+1),sl,Z Y a.all],Z Y 0,WW true])/\w'.ownsRow (K (E w)) 104 4 sl n (jg (Sp.fh P n a).val (Sp.fh P n a).fC (Sp.fh P n a).iI (Sp.fh P n a).jf n)
  |.error i=>e=WZ (WX #[WY #[Z Y 0,J U 0 0,Z Y 0],Z Y i,WW W9])
theorem G7{P:Program}{c:Code}{Q:Exit->Act->WR->Prop}{a:Act}{w:WR}(R:WS->WS->WR->Prop)(h:∃A:WS->WS->Act,c.wp P (sY λx j b=>x=.normal/\∃u1 u2,j=A u1 u2/\R u1 u2 b) a w/\∀u1 u2 b,R u1 u2 b->Q .normal (A u1 u2) b):c.wp P Q a w:=by
 obtain⟨A,l,m⟩:=h;refine Code.wp_mono (λe a w h=>?_) l;obtain⟨rfl,u1,u2,rfl,r⟩:=kX _ _ _ h;exact m _ _ _ r
end
section
theorem fK{W:WR}{b B:Nat}{pf:Option Addr}{n kf:Nat}{pe:Option Addr}{ke cY:Nat}{t:TypeId}(h:W.heap[b]?=S (D (dV B pf n kf pe ke cY) t (0,0))):W.cell? ⟨b,0,U⟩=S (WV (S ⟨B,0,U⟩))/\W.cell? ⟨b,1,U⟩=S (J pf n kf)/\W.cell? ⟨b,2,U⟩=S (J pe n ke)/\W.cell? ⟨b,3,U⟩=S (Z Y cY):=by
 unfold dV at h;exact⟨by simp[Xc,h],by simp[Xc,h],by simp[Xc,h],by simp[Xc,h]⟩
theorem dQ{W:WR}{K:Nat}{a b c:WS}{t:TypeId}(h:W.heap[K]?=S (D #[a,b,c] t (0,0))):W.cell? ⟨K,0,U⟩=S a/\W.cell? ⟨K,1,U⟩=S b/\W.cell? ⟨K,2,U⟩=S c/\∀j,W.frozen? ⟨K,j,U⟩=W9:=⟨by simp[Xc,h],by simp[Xc,h],by simp[Xc,h],λj=>by simp[World.frozen?,h]⟩
theorem Kf(B:Nat)(pf:Option Addr)(n kf:Nat)(pe:Option Addr)(ke cY:Nat)(P:Sp.Pg)(Es:List Sp.Ed)(p:Option Addr)(cap step:Nat)(c:Sp.Cfg)(z f:Addr)(w:WR)(hp:jJ w B P)(aX:jY w z f)(he:IG w pe n Es)(hv:kg w p c n)(aY:Sp.eY n c)(hj:Sp.iO P Es n)(hs:step<=100000):WT prog 42 #[WY (dV B pf n kf pe ke cY),gy step p n cap c.all] w (LC (Sp.lI P Es c step n) P n step w):=by
 generalize hO:LC (Sp.lI P Es c step n) P n step w=b;replace hO:=cT hO;have HP:=cT hp;have HR:=cT aX;have HE:=cT he;have HV:=cT hv;have s:=cT aY;have HJ:=cT hj;have ax:=hj.It;have aZ:=cT (jj w (dV B pf n kf pe ke cY) #[Z Y (step:Int),J p n cap,Z Y c.all] #[Z Y 0,J U 0 0,Z Y 0] 75 80 80);have bG:IntKind.i64.wrap ((step:Int)+1)=(step:Int)+1:=by rw[Uy];omega
 have HU:=cT (λW (hb:WQ w W)=>ES B pf n kf pe ke cY ((step:Int)+1) p n cap P c W (hp.below hb) (hv.below hb) ax);clear hp aX he hv aY hj;unfold gy;unfold dV at *;go_enter func42,ntmps42;go_wp2_with fail;generalize hW:Xe (Xe _ _) _=N;obtain⟨a1,a6,a7,aj,b3⟩:=cS aZ N hW.symm;have a8:=cT a1;have aJ:=cT a6;have ba:=cT a7;clear hW aZ a1 a6 a7;refine(cS HU N aj).mono ?_;rintro e w1 ⟨aD,sl,rfl,aK⟩;obtain⟨pn,kn,Q,_⟩:=dm aK;subst Q;have aL:Hid (S2 N _ (K (E w1)) (K (E N)) pn kn n P Es c step 0 _):=S2.first (cS s).lv aD aK
 obtain⟨na,bH⟩:∃na,Hid (Sp.eR P.al=na):=⟨_,rfl⟩
 rw[cS bH] at aL ⊢;have aM:K (E N)<=K (E w1):=aD.size;obtain⟨u0,u1,u2,u3⟩:=dQ ((aD.block (K (E w)+1) (by omega)).trans (cS aJ));have bc:K (E w)+1<K (E w1):=by omega
 clear aD aK u3 HU bG;go_wp2_with fail
 go_loopw [23] (λi wr=>∃(k:Nat) (a:Sp.Acc),k<=n/\i=Z Y k/\Hid (S2 N wr (K (E w1)) (K (E N)) pn kn n P Es c step k a)) (λi _=>n-(intOf i).toNat)
 case atStart=>exact⟨0,_,Ud _,rfl,aL⟩
 case round =>
  clear aL u0 u1 u2 bc;obtain⟨C,hC⟩:∃C,K (E w1)=C:=⟨_,rfl⟩
  rw[hC] at hrel aM ⊢;obtain⟨k,a,hk,rfl,HS⟩:=hrel;have ak:=(cS HS).lJ;have b4:=ak.size;have bd:WQ w wr:=aj.trans (ak.mono (by omega));have ae:Hid (Sp.Bk n k a):=Sp.sI (cS HJ) lN (cS s) hs k hk a (cS HS).st;by_cases an:k<n
  .have bg:(k:Int)<(n:Int):=by omega
   have g0:(0:Int)<=(k:Int):=UF _;obtain⟨gp,rfl,b5,d0,d1,d2,d3⟩:=((cS HV).below bd) k an;obtain⟨u0,u1,u2,_⟩:=dQ ((ak.block (K (E w)+1) (by omega)).trans (cS aJ));have bc:K (E w)+1<K (E wr):=by omega
   have ar:=cT (λW=>FN step (S ⟨gp,0,U⟩) n cap c.all (c.val.getD k 0) (c.iI.getD k 0) (c.jf.getD k 0) (c.fC.getD k W9) W (by omega));have bI:Hid ((step == 0 || (!(c.fC.getD k W9) || decide (0<c.iI.getD k 0)))=Sp.mA c k step):=rfl;rw[cS bI] at ar;obtain⟨aw,HW⟩:∃aw,Hid (Sp.mA c k step=aw):=⟨_,rfl⟩
   rw[cS HW] at ar;unfold gy at ar;obtain⟨r,aE⟩:∃r,Hid (Sp.AO c (Sp.iE Es k).length k step=r):=⟨_,rfl⟩
   have bh:Hid (m5 (r.iY 0)=WY #[Z Y (c.val.getD k 0),Z Y (c.jf.getD k 0),Z Y (c.iI.getD k 0),Z Y (step:Int),Z Y (k:Int),Z Y ((Sp.iE Es k).length:Int),Z Y c.all,Z Y 0,Z Y 0]):=by show _=_;rw[<-cS aE];rfl
   have bJ:Hid (Sp.qJ P Es c k step=Sp.gY P r (Sp.iE Es k)):=by show _=_;rw[<-cS aE];rfl
   have bj:Hid (Sp.nA r/\r.yp=r.value):=by
    have h:=Sp.Fk (cS s) (deg:=(Sp.iE Es k).length) (i:=k) (step:=step) an (by have:=Sp.oQ Es k;have:=(cS HJ).es;omega) ax hs;rw[cS aE] at h;refine⟨h,?_⟩;rw[<-cS aE];rfl
   have bk:Hid (aw=W9->∀F,WQ wr F->S2 N F C (K (E N)) pn kn n P Es c step (k+1) ⟨a.val++[c.val.getD k 0],a.fC++[c.fC.getD k W9],a.all,a.dX⟩):=λha F hb=>(cS HS).skip (cS ae) (cS s) an (by rw[cS HW];exact ha) hb ak.size
   generalize c.val.getD k 0=x0 at *;generalize c.fC.getD k W9=x1 at *;generalize c.iI.getD k 0=x2 at *;generalize c.jf.getD k 0=x3 at *;go_wp2_with fail;generalize aN:Xe _ _=V1;have aF:WQ wr V1:=by rw[<-aN];exact WO.alloc WN _
   have aq:V1.heap[K (E wr)]?=S (D #[Z Y x0,WW x1,Z Y x2,Z Y x3] 104 (0,0)):=by rw[<-aN];exact T9 wr _
   clear aN d0 d1 d2 d3 u0 u1 u2;refine(cS ar V1).mono ?_;rintro e A ⟨rfl,aG⟩;have aa:WQ wr A:=aF.trans (aG.mono aF.size);have ab:=(aG.block (K (E wr)) (Ug.1 aq).1).trans aq;cases aw with
   |false =>
    have ay:=cT (cS bk O A aa);clear ar aF aq aG aa ab;go_wp2;go_roundw
    case rel=>exact⟨k+1,_,by omega,by go_num,ay⟩
    case measure=>simp[intOf];omega
   |true =>
    have af:WQ N A:=ak.trans (aa.mono ak.size);have b6:=aa.size;have b7:=(Ug.1 ab).1;have v0:A.cell? ⟨K (E wr),0,U⟩=S (Z Y x0):=by simp[Xc,ab]
    have v2:A.cell? ⟨K (E wr),2,U⟩=S (Z Y x2):=by simp[Xc,ab]
    have v3:A.cell? ⟨K (E wr),3,U⟩=S (Z Y x3):=by simp[Xc,ab]
    obtain⟨u0,u1,u2,_⟩:=dQ ((af.block (K (E w)+1) (by omega)).trans (cS aJ));obtain⟨j0,j1,j2,j3⟩:=fK (B:=B) (pf:=pf) (n:=n) (kf:=kf) (pe:=pe) (ke:=ke) (cY:=cY) ((af.block (K (E w)) (by omega)).trans (cS a8));have bn:WQ w A:=aj.trans (af.mono (by omega));obtain⟨y,au,av,bo,hD,dc,bp⟩:=((cS HE).below bn) k an;have bq:=cT bp;rw[bo] at j2;have ay:Hid (II A C (K (E N)) pn kn n ((step:Int)+1) a.all (a.val++c.val.drop k) (a.fC++c.fC.drop k) ((List.range n).map (Sp.hZ a.dX)) ((List.range n).map (Sp.ig P a.dX))):=(cS HS).pc.below aa;have aO:(Sp.iE Es k).length<=256:=by have:=Sp.oQ Es k;have:=(cS HJ).es;omega
    obtain⟨dl,aH⟩:∃dl,Hid ((Sp.iE Es k).length=dl):=⟨_,rfl⟩
    rw[cS aH] at dc bh aO;have b2:C<K (E A):=(cS ay).lt;clear ar aF aq aG aa ab bp bo j1 j3 u1 bk;go_upto_region 6 with fail;apply wB (λF=>F=(A.alloc (D #[Z Y x0,Z Y x3,Z Y x2,Z Y (step:Int),Z Y (k:Int),Z Y (dl:Int),Z Y c.all,Z Y 0,Z Y 0] 165)).drew);apply Exists.intro;apply And.intro
    case left =>
     go_region_held3 (λF=>F.cell? ⟨K (E wr),0,U⟩=S (Z Y x0)/\F.cell? ⟨K (E wr),2,U⟩=S (Z Y x2)/\F.cell? ⟨K (E wr),3,U⟩=S (Z Y x3)/\F.cell? ⟨K (E w)+1,0,U⟩=S (Z Y (step:Int))/\F.cell? ⟨K (E w)+1,2,U⟩=S (Z Y c.all)/\F.cell? ⟨K (E w),2,U⟩=S (J (S ⟨y,0,U⟩) n ke)/\F.cell? ⟨y,k,U⟩=S (J au dl av))
      (first|(go_keep;done))
      (first|fail)
     exact⟨O,O,O⟩
    case right =>
    rintro w3 aP;have ag:WQ A w3:=by rw[aP];exact(WO.alloc WN _).drew
    have V:w3.heap[K (E A)]?=S (D #[Z Y x0,Z Y x3,Z Y x2,Z Y (step:Int),Z Y (k:Int),Z Y (dl:Int),Z Y c.all,Z Y 0,Z Y 0] 165 (0,0)):=by rw[aP];exact T9 A _
    have Q:=(Ug.1 V).1;have s0:w3.cell? ⟨K (E A),0,U⟩=S (Z Y x0):=by simp[Xc,V]
    have s1:w3.cell? ⟨K (E A),1,U⟩=S (Z Y x3):=by simp[Xc,V]
    have s2:w3.cell? ⟨K (E A),2,U⟩=S (Z Y x2):=by simp[Xc,V]
    have s3:w3.cell? ⟨K (E A),3,U⟩=S (Z Y (step:Int)):=by simp[Xc,V]
    have s4:w3.cell? ⟨K (E A),4,U⟩=S (Z Y (k:Int)):=by simp[Xc,V]
    have s5:w3.cell? ⟨K (E A),5,U⟩=S (Z Y (dl:Int)):=by simp[Xc,V]
    have s6:w3.cell? ⟨K (E A),6,U⟩=S (Z Y c.all):=by simp[Xc,V]
    have s7:w3.cell? ⟨K (E A),7,U⟩=S (Z Y 0):=by simp[Xc,V]
    have s8:w3.cell? ⟨K (E A),8,U⟩=S (Z Y 0):=by simp[Xc,V]
    have ah:WQ N w3:=af.trans (ag.mono af.size);have aI:WQ w w3:=aj.trans (ah.mono (by omega));have ca:=ag.size;have aQ:=cT ((cS ay).below ag);have aR:=(ag.cell (p:=⟨K (E w),0,U⟩) (by show (K (E w))<_;omega)).trans j0;have aS:=(ag.cell (p:=⟨K (E w),2,U⟩) (by show (K (E w))<_;omega)).trans j2;have aT:=(ag.cell (p:=⟨y,k,U⟩) hD).trans dc;have br:=cT ((cS bq).below ag);have bK:y<K (E w3):=by omega
    have bs:K (E w)<K (E w3):=by omega
    have bu:Hid (∀W,WQ w3 W->W.cell? ⟨K (E w),0,U⟩=S (WV (S ⟨B,0,U⟩))/\W.cell? ⟨K (E w),2,U⟩=S (J (S ⟨y,0,U⟩) n ke)/\W.cell? ⟨y,k,U⟩=S (J au dl av)/\W.cell? ⟨K (E A),0,U⟩=S (Z Y x0)/\W.cell? ⟨K (E A),1,U⟩=S (Z Y x3)/\W.cell? ⟨K (E A),2,U⟩=S (Z Y x2)/\W.cell? ⟨K (E A),3,U⟩=S (Z Y (step:Int))/\W.cell? ⟨K (E A),4,U⟩=S (Z Y (k:Int))/\W.cell? ⟨K (E A),5,U⟩=S (Z Y (dl:Int))/\W.cell? ⟨K (E A),6,U⟩=S (Z Y c.all)/\W.cell? ⟨K (E A),7,U⟩=S (Z Y 0)/\W.cell? ⟨K (E A),8,U⟩=S (Z Y 0)):=λW hW=>⟨(hW.cell (p:=⟨K (E w),0,U⟩) bs).trans aR,(hW.cell (p:=⟨K (E w),2,U⟩) bs).trans aS,(hW.cell (p:=⟨y,k,U⟩) bK).trans aT,(hW.cell (p:=⟨K (E A),0,U⟩) Q).trans s0,(hW.cell (p:=⟨K (E A),1,U⟩) Q).trans s1,(hW.cell (p:=⟨K (E A),2,U⟩) Q).trans s2,(hW.cell (p:=⟨K (E A),3,U⟩) Q).trans s3,(hW.cell (p:=⟨K (E A),4,U⟩) Q).trans s4,(hW.cell (p:=⟨K (E A),5,U⟩) Q).trans s5,(hW.cell (p:=⟨K (E A),6,U⟩) Q).trans s6,(hW.cell (p:=⟨K (E A),7,U⟩) Q).trans s7,(hW.cell (p:=⟨K (E A),8,U⟩) Q).trans s8⟩
    have aU:Hid (∀W,WQ w3 W->WT prog 73 #[WV (S ⟨B,0,U⟩),WY #[Z Y x0,Z Y x3,Z Y x2,Z Y (step:Int),Z Y (k:Int),Z Y (dl:Int),Z Y c.all,Z Y 0,Z Y 0],J au dl av] W (Fz (Sp.qJ P Es c k step) W)):=by
     show ∀W,_
     intro W hW;have bw:=aI.trans (hW.mono aI.size);have h:=Ko B P r 0 (Sp.iE Es k) au av z f W ((cS HP).below bw) ((cS HR).below bw) (cS bj).1 (cS bj).2 ((cS br).below hW) (λx hx=>((cS HJ).ed x (VE.1 hx).1).2.2) (by have:=cS aH;omega);rw[cS bh,cS aH,<-cS bJ] at h;exact h
    have cc:Hid (∀(args:Array WS) (w:WR),(callFunc 73 args).run prog w=.ok (.enter 73 args) w):=cZ func73 (by kernel_rfl) (by kernel_rfl);obtain⟨o,az⟩:∃o,Hid (Sp.qJ P Es c k step=o):=⟨_,rfl⟩
    rw[cS az] at aU;clear aP v0 v2 v3 u0 u2 j0 j2 dc ay V ag bq;go_upto_region 7 with fail;cases o with
    |none =>
     apply vd (λu F=>Hid (WQ w3 F));apply Exists.intro;apply And.intro
     case left =>
      go_region_held3 (λF=>F.cell? ⟨K (E w),0,U⟩=S (WV (S ⟨B,0,U⟩))/\F.cell? ⟨K (E w),2,U⟩=S (J (S ⟨y,0,U⟩) n ke)/\F.cell? ⟨y,k,U⟩=S (J au dl av)/\F.cell? ⟨K (E A),0,U⟩=S (Z Y x0)/\F.cell? ⟨K (E A),1,U⟩=S (Z Y x3)/\F.cell? ⟨K (E A),2,U⟩=S (Z Y x2)/\F.cell? ⟨K (E A),3,U⟩=S (Z Y (step:Int))/\F.cell? ⟨K (E A),4,U⟩=S (Z Y (k:Int))/\F.cell? ⟨K (E A),5,U⟩=S (Z Y (dl:Int))/\F.cell? ⟨K (E A),6,U⟩=S (Z Y c.all)/\F.cell? ⟨K (E A),7,U⟩=S (Z Y 0)/\F.cell? ⟨K (E A),8,U⟩=S (Z Y 0))
       (first|(exact cS bu _ (by first|assumption|exact WO.drew|exact WO.drew.alloc WN _|exact ad.alloc ad.size _|exact(((ad.setCell (p:=⟨K (E w3),0,U⟩) WN _).setCell (p:=⟨K (E w3),1,U⟩) WN _).setCell (p:=⟨K (E w3),2,U⟩) WN _).setCell (p:=⟨K (E w3),3,U⟩) WN _))|(go_keep;done))
       (first|(go_at_call 73;refine(cS aU _ (by first|exact T4 _ _|exact WO.drew|exact WO.drew.alloc WN _|exact WO.alloc WN _)).mono ?_;rintro e M ⟨I,rfl⟩;have ad:WQ w3 M:=(by first|exact WO.drew.trans (I.mono WN)|exact(WO.drew.alloc WN _).trans (I.mono (by simp))|exact I);have ao:=cT ad;try (have G:M.heap[K (E w3)]?=S (D #[Z Y 0,J U 0 0,WW W9,Z Y 0] 167 (0,0)):=(I.block _ (by simp)).trans (T9 w3.drew _);have bL:M.cell? ⟨K (E w3),0,U⟩=S (Z Y 0):=(by simp[Xc,G]);have bM:M.frozen? ⟨K (E w3),0,U⟩=W9:=(by simp[World.frozen?,G]);have bN:M.cell? ⟨K (E w3),1,U⟩=S (J U 0 0):=(by simp[Xc,G]);have bO:M.frozen? ⟨K (E w3),1,U⟩=W9:=(by simp[World.frozen?,G]);have bP:M.cell? ⟨K (E w3),2,U⟩=S (WW W9):=(by simp[Xc,G]);have bQ:M.frozen? ⟨K (E w3),2,U⟩=W9:=(by simp[World.frozen?,G]);have bR:M.cell? ⟨K (E w3),3,U⟩=S (Z Y 0):=(by simp[Xc,G]);have bS:M.frozen? ⟨K (E w3),3,U⟩=W9:=(by simp[World.frozen?,G]);have bx:=cT G;clear G);clear I))
      all_goals
       first
        | (have h1:=(cS ao).alloc (cS ao).size (D #[Z Y 0,J U 0 0,WW W9,Z Y 0] 167)
           generalize Value.pointer (S ⟨K (E M),0,U⟩)=u
           first
            |exact⟨rfl,u,rfl,h1⟩
            |exact⟨rfl,u,rfl,h1.drew⟩)
        | (have h1:=((((cS ao).setCell (p:=⟨K (E w3),0,U⟩) WN (Z Y 0)).setCell (p:=⟨K (E w3),1,U⟩) WN (J U 0 0)).setCell (p:=⟨K (E w3),2,U⟩) WN (WW W9)).setCell (p:=⟨K (E w3),3,U⟩) WN (Z Y 0)
           generalize Value.pointer (S ⟨K (E w3),0,U⟩)=u
           first
            |exact⟨rfl,u,rfl,h1⟩
            |exact⟨rfl,u,rfl,h1.drew⟩)
        |trace_state
     case right =>
     rintro u w4 aA;have bT:Hid (Sp.lI P Es c step n=.error k):=by
      have h:=Sp.Ob (n-(k+1)) (k+1) (Sp.Ns (cS HS).st (cS HW) (cS az));rw[show k+1+(n-(k+1))=n by omega] at h;exact h
     have X:WQ N w4:=ah.trans ((cS aA).mono ah.size);have L:w4.heap[K (E w)+1+1]?=_:=(X.block (K (E w)+1+1) (by omega)).trans (cS ba);have r0:w4.cell? ⟨K (E w)+1+1,0,U⟩=S (Z Y 0):=by simp[Xc,L]
     have bU:w4.frozen? ⟨K (E w)+1+1,0,U⟩=W9:=by simp[World.frozen?,L]
     have r1:w4.cell? ⟨K (E w)+1+1,1,U⟩=S (J U 0 0):=by simp[Xc,L]
     have bV:w4.frozen? ⟨K (E w)+1+1,1,U⟩=W9:=by simp[World.frozen?,L]
     have r2:w4.cell? ⟨K (E w)+1+1,2,U⟩=S (Z Y 0):=by simp[Xc,L]
     have bW:w4.frozen? ⟨K (E w)+1+1,2,U⟩=W9:=by simp[World.frozen?,L]
     have aV:Hid (b (WZ (WX #[WY #[Z Y 0,J U 0 0,Z Y 0],Z Y k,WW W9])) (fS w4 (K (E w)+1+1) (Z Y 0) (J U 0 0) (Z Y 0))):=by
      show b _ _
      rw[<-cS hO,cS bT];exact⟨mP (aj.trans (X.mono (by omega))) (by omega) _ _ _,O⟩
     clear s0 s1 s2 s3 s4 s5 s6 s7 s8 aR aS aT L;go_wp2;exact T8 (v := WX #[WY #[Z Y 0,J U 0 0,Z Y 0],Z Y k,WW W9]) (by simp[results,results42,go_sem,r0,r1,r2]) O (cS aV)
    |some t =>
     have bX:Hid (Sp.PU n t):=Sp.ED (cS HJ) lN (cS s) an hs (cS az);obtain⟨m,HM⟩:∃m,Hid (Xg t.dX=m):=⟨_,rfl⟩
     apply G7 (λv u F=>∃T,u=WV (S ⟨T,0,U⟩)/\Hid (F.heap[T]?=S (D #[Z Y t.value,v,WW t.gz,Z Y t.lG] 167 (0,0)))/\Hid (F.ownsRow (K (E w3)) 2 1 v (Xg t.dX) (t.dX.map λm=>Z Y m.2))/\Hid (WQ w3 F));apply Exists.intro;apply And.intro
     case left =>
      go_region_held3 (λF=>F.cell? ⟨K (E w),0,U⟩=S (WV (S ⟨B,0,U⟩))/\F.cell? ⟨K (E w),2,U⟩=S (J (S ⟨y,0,U⟩) n ke)/\F.cell? ⟨y,k,U⟩=S (J au dl av)/\F.cell? ⟨K (E A),0,U⟩=S (Z Y x0)/\F.cell? ⟨K (E A),1,U⟩=S (Z Y x3)/\F.cell? ⟨K (E A),2,U⟩=S (Z Y x2)/\F.cell? ⟨K (E A),3,U⟩=S (Z Y (step:Int))/\F.cell? ⟨K (E A),4,U⟩=S (Z Y (k:Int))/\F.cell? ⟨K (E A),5,U⟩=S (Z Y (dl:Int))/\F.cell? ⟨K (E A),6,U⟩=S (Z Y c.all)/\F.cell? ⟨K (E A),7,U⟩=S (Z Y 0)/\F.cell? ⟨K (E A),8,U⟩=S (Z Y 0))
       (first|(exact cS bu _ (by first|assumption|exact WO.drew|exact WO.drew.alloc WN _|exact ad.alloc ad.size _|exact(((ad.setCell (p:=⟨K (E w3),0,U⟩) WN _).setCell (p:=⟨K (E w3),1,U⟩) WN _).setCell (p:=⟨K (E w3),2,U⟩) WN _).setCell (p:=⟨K (E w3),3,U⟩) WN _))|(go_keep;done))
       (first|(go_at_call 73;refine(cS aU _ (by first|exact T4 _ _|exact WO.drew|exact WO.drew.alloc WN _|exact WO.alloc WN _)).mono ?_;rintro e M ⟨I,v,rfl,aW⟩;obtain⟨pm,km,aB,_⟩:=dm aW;rw[cS HM] at aB;subst aB;have ad:WQ w3 M:=(by first|exact WO.drew.trans (I.mono WN)|exact(WO.drew.alloc WN _).trans (I.mono (by simp))|exact I);have ao:=cT ad;have ai:=cT aW;try (have G:M.heap[K (E w3)]?=S (D #[Z Y 0,J U 0 0,WW W9,Z Y 0] 167 (0,0)):=(I.block _ (by simp)).trans (T9 w3.drew _);have bL:M.cell? ⟨K (E w3),0,U⟩=S (Z Y 0):=(by simp[Xc,G]);have bM:M.frozen? ⟨K (E w3),0,U⟩=W9:=(by simp[World.frozen?,G]);have bN:M.cell? ⟨K (E w3),1,U⟩=S (J U 0 0):=(by simp[Xc,G]);have bO:M.frozen? ⟨K (E w3),1,U⟩=W9:=(by simp[World.frozen?,G]);have bP:M.cell? ⟨K (E w3),2,U⟩=S (WW W9):=(by simp[Xc,G]);have bQ:M.frozen? ⟨K (E w3),2,U⟩=W9:=(by simp[World.frozen?,G]);have bR:M.cell? ⟨K (E w3),3,U⟩=S (Z Y 0):=(by simp[Xc,G]);have bS:M.frozen? ⟨K (E w3),3,U⟩=W9:=(by simp[World.frozen?,G]);have bx:=cT G;clear G);clear I aW))
      all_goals
       first
        | (have h1:=(cS ao).alloc (cS ao).size (D #[Z Y t.value,J pm m km,WW t.gz,Z Y t.lG] 167)
           have h2:=T9 M (D #[Z Y t.value,J pm m km,WW t.gz,Z Y t.lG] 167);have h3:=(fy (cS ai) (B:=K (E w3)) (by simp)).alloc (D #[Z Y t.value,J pm m km,WW t.gz,Z Y t.lG] 167);clear ai;generalize hu:Value.pointer (S ⟨K (E M),0,U⟩)=u;generalize Value.slice pm m km=v at *
           first
            |exact⟨rfl,v,u,rfl,K (E M),hu.symm,h2,h3,h1⟩
            |exact⟨rfl,v,u,rfl,K (E M),hu.symm,h2,h3.drew,h1.drew⟩)
        | (have h1:=((((cS ao).setCell (p:=⟨K (E w3),0,U⟩) WN (Z Y t.value)).setCell (p:=⟨K (E w3),1,U⟩) WN (J pm m km)).setCell (p:=⟨K (E w3),2,U⟩) WN (WW t.gz)).setCell (p:=⟨K (E w3),3,U⟩) WN (Z Y t.lG)
           have h2:=ym (cS bx) (Z Y t.value) (J pm m km) (WW t.gz) (Z Y t.lG);have o':∀{W:WR} (j:Nat) (q:WS),W.ownsRow (K (E w3)+1) 2 1 (J pm m km) (Xg t.dX) (t.dX.map λm=>Z Y m.2)->(W.setCell ⟨K (E w3),j,U⟩ q).ownsRow (K (E w3)+1) 2 1 (J pm m km) (Xg t.dX) (t.dX.map λm=>Z Y m.2):=λj q h=>Um h (a:=⟨K (E w3),j,U⟩) (Nat.lt_succ_self _) q
           have h3:=fy (o' 3 (Z Y t.lG) (o' 2 (WW t.gz) (o' 1 (J pm m km) (o' 0 (Z Y t.value) (fy (cS ai) (by simp)))))) (B:=K (E w3)) (U0 _);clear ai o';unfold j6 at h2;generalize hu:Value.pointer (S ⟨K (E w3),0,U⟩)=u;generalize Value.slice pm m km=v at *
           first
            |exact⟨rfl,v,u,rfl,K (E w3),hu.symm,h2,h3,h1⟩
            |exact⟨rfl,v,u,rfl,K (E w3),hu.symm,h2,h3.drew,h1.drew⟩)
        |trace_state
     case right =>
     rintro v u w4 ⟨T,rfl,aC,ai,aA⟩;obtain⟨pm,km,aB,_⟩:=dm (cS ai);rw[cS HM] at aB;subst aB;have X:WQ N w4:=ah.trans ((cS aA).mono ah.size);have cd:=(cS aA).size;obtain⟨g,rfl,bY,bZ⟩:=(cS aQ).form (by omega);have bA:=cT ((cS aQ).below (cS aA)).TS;have b0:=(cS aQ).lt;have bB:Hid (WT prog 74 #[WY #[WV (S ⟨B,0,U⟩),J pf n kf,J pe n ke,Z Y cY],WY #[Z Y t.value,J pm m km,WW t.gz,Z Y t.lG],Z Y k,WV (S ⟨C,0,U⟩)] w4 (Df P C (K (E N)) g kn n ((step:Int)+1) a.all (a.val++c.val.drop k) (a.fC++c.fC.drop k) a.dX t k w4)):=PF B pf n kf pe ke cY P Es t k (J pm m km) C (K (E N)) g kn (K (E w3)) ((step:Int)+1) a.all (a.val++c.val.drop k) (a.fC++c.fC.drop k) a.dX N w4 ((cS HP).below aj) ((cS HE).below aj) X an ax (cS bA) aM WN (by rw[UG,(cS ae).lv,Vb,(cS s).lv];omega) (by rw[UG,(cS ae).lr,Vb,(cS s).lr];omega) (by have h1:=(cS ae).l;have h2:k*256<=64*256:=Wq _ (by omega);omega) (cS ai) b0 bZ (Sp.NX (cS az)) (cS bX) (by have:=cS aH;omega);obtain⟨i0,i1,i2,i3⟩:=fK (B:=B) (pf:=pf) (n:=n) (kf:=kf) (pe:=pe) (ke:=ke) (cY:=cY) ((X.block (K (E w)) (by omega)).trans (cS a8));have t0:w4.cell? ⟨T,0,U⟩=S (Z Y t.value):=by simp[Xc,cS aC]
     have t1:w4.cell? ⟨T,1,U⟩=S (J pm m km):=by simp[Xc,cS aC]
     have t2:w4.cell? ⟨T,2,U⟩=S (WW t.gz):=by simp[Xc,cS aC]
     have t3:w4.cell? ⟨T,3,U⟩=S (Z Y t.lG):=by simp[Xc,cS aC]
     clear s0 s1 s2 s3 s4 s5 s6 s7 s8 aR aS aT aC ai bA;go_wp2_with fail;refine(cS bB).mono ?_;rintro e w5 ⟨rfl,bC,bD⟩;have b1:Hid (S2 N w5 C (K (E N)) (S ⟨g,0,U⟩) kn n P Es c step (k+1) _):=S2.qJ (cS HS).st (cS ae) (cS s) an (cS HW) (cS az) bD (X.trans (bC.below aM bY X.size));clear bC bD bB i0 i1 i2 i3 t0 t1 t2 t3;go_wp2;go_roundw
     case rel=>exact⟨k+1,_,by omega,by go_num,b1⟩
     case measure=>simp[intOf];omega
  .have bg:¬(k:Int)<(n:Int):=by omega
   have bE:k=n:=by omega
   have x0:=(cS HS).pc.c0;have x1:=(cS HS).pc.c1;have x2:=(cS HS).pc.c2;have L:wr.heap[K (E w)+1+1]?=_:=(ak.block (K (E w)+1+1) (by omega)).trans (cS ba);have r0:wr.cell? ⟨K (E w)+1+1,0,U⟩=S (Z Y 0):=by simp[Xc,L]
   have bU:wr.frozen? ⟨K (E w)+1+1,0,U⟩=W9:=by simp[World.frozen?,L]
   have r1:wr.cell? ⟨K (E w)+1+1,1,U⟩=S (J U 0 0):=by simp[Xc,L]
   have bV:wr.frozen? ⟨K (E w)+1+1,1,U⟩=W9:=by simp[World.frozen?,L]
   have r2:wr.cell? ⟨K (E w)+1+1,2,U⟩=S (Z Y 0):=by simp[Xc,L]
   have bW:wr.frozen? ⟨K (E w)+1+1,2,U⟩=W9:=by simp[World.frozen?,L]
   have aV:Hid (b (WZ (WX #[WY #[Z Y ((step:Int)+1),J pn n kn,Z Y a.all],Z Y 0,WW true])) (fS wr (K (E w)+1+1) (Z Y ((step:Int)+1)) (J pn n kn) (Z Y a.all))):=by
    show b _ _
    have bF:=(cS HS).st;rw[bE] at bF;rw[<-cS hO,bF];refine⟨mP bd (by omega) _ _ _,_,O,?_⟩;have h1:=(cS HS).pc.o;rw[bE,VA (by rw[(cS s).lv];exact TY _),VA (by rw[(cS s).lr];exact TY _),Vr,Vr] at h1;exact fy (pG h1 (R:=K (E w)+1+1) (by omega) _ _ _) (by omega)
   clear L;go_wp2;exact T8 (v := WX #[WY #[Z Y ((step:Int)+1),J pn n kn,Z Y a.all],Z Y 0,WW true]) (by simp[results,results42,go_sem,r0,r1,r2]) O (cS aV)
end
section
theorem Tt(pn:Option Addr)(n kn:Nat)(pv:Option Addr)(kv:Nat)(pe:Option Addr)(ke:Nat)(Es:List Sp.Ed)(w:WR)(he:gh w pe Es)(hn:n<=64)(hm:Es.length<=256)(aa:∀x∈Es,x.dj<n):WT prog 39 #[WY #[J pn n kn,J pv n kv,J pe Es.length ke]] w (JJ n Es w):=by
 obtain⟨t2,ar,au,av,aw⟩:=UB info_edge;obtain⟨t3,ax,ay,az,aA⟩:=UB info_edges;generalize hO:JJ n Es w=b;replace hO:=cT hO;have HE:=cT he;have aB:=cT aa;obtain⟨m,HM⟩:∃m,Hid (Es.length=m):=⟨_,rfl⟩
 rw[cS HM] at hm;rw[cS HM];have Q:WQ w (w.alloc (D #[J pn n kn,J pv n kv,J pe m ke] 68)):=WO.alloc WN _;have ab:=T9 w (D #[J pn n kn,J pv n kv,J pe m ke] 68);have R:=Uv w (D #[J pn n kn,J pv n kv,J pe m ke] 68);clear he aa;go_enter func39,ntmps39;go_wp2_with (first|((refine wpList_make_full _ rfl (.tmp 8) (.tmp 8) 73 rfl (K (E w)+1) 66 t3 _ 1 underlying73 ax ay az Y Y _ _ n rfl rfl rfl rfl (by rw[aA];omega) (by unfold maxLen;omega) (by first|exact TY _|omega|exact V5 R.symm) ?_;intro F u G;have aC:F.cell? ⟨K (E w),2,U⟩=S (J pe m ke):=(G.cell_far ⟨K (E w),2,U⟩ (by simp) (by simp)).trans (T5 _ _ 2 _ _ (0,0) ab)))|go_in);rw[R] at u;have aD:WQ w F:=Q.grown G Q.size (λq hq=>by cases hq);have aN:K (E w)+1<=K (E F):=by have:=G.size;omega
 have ad:Hid (sF F (K (E w)+1) (K (E w)+1) n (λ_=>J U 0 0) (Es.take 0)):=by
  rw[List.take_zero];refine sF.new ?_;rw[Nat.mul_one] at u;rw[<-toList_madeCells_one];exact u
 clear u G aC Q ab R
 go_loopw [13] (λi wr=>∃(k:Nat) (f:Nat->WS),k<=m/\i=Z Y k/\Hid (sF wr (K (E w)+1) (K (E w)+1) n f (Es.take k))/\Below (K (E w)+1) F wr) (λi _=>m-(intOf i).toNat)
 case atStart=>exact⟨0,_,Ud _,rfl,ad,T4 _ _⟩
 case round =>
  clear ad;obtain⟨k,f,hk,rfl,HV,hb⟩:=hrel;have ae:WQ w wr:=aD.trans (hb.mono (by omega));have aO:=hb.size;by_cases aE:k<m
  .have af:(k:Int)<(m:Int):=by omega
   have g0:(0:Int)<=(k:Int):=UF _;have T:k<Es.length:=by rw[cS HM];exact aE
   obtain⟨g,rfl,hg,d0,d1,d2⟩:=((cS HE).below ae) k T;obtain⟨x,hx⟩:∃x,Es[k]=x:=⟨_,rfl⟩
   have z:x.dj<n:=by rw[<-hx];exact cS aB _ (UU T)
   rw[hx] at d0 d1 d2;have ag:Hid (Es.take (k+1)=Es.take k++[x]):=by show _=_;rw[Vf T,hx]
   clear hx;have aP:(x.dj:Int)<(n:Int):=by omega
   have aQ:(0:Int)<=(x.dj:Int):=UF _;have aF:(Sp.iE (Es.take k) x.dj).length<=256:=by have:=Sp.oQ (Es.take k) x.dj;rw[Vj] at this;omega
   obtain⟨rl,I⟩:∃rl,Hid ((Sp.iE (Es.take k) x.dj).length=rl):=⟨_,rfl⟩
   rw[cS I] at aF;go_upto_region 5 with fail;generalize V:Xe _ _=l;have W:WQ wr l:=by rw[<-V];exact WO.alloc WN _
   have y:l.heap[K (E wr)]?=S (D #[Z Y (x.dj:Int),Z Y (x.cR:Int),Z Y x.n] 162 (0,0)):=by rw[<-V];exact T9 wr _
   clear V d0 d1 d2;have r:=(cS HV).below W;have ah:Below (K (E w)+1) F l:=hb.trans (W.mono (by omega));have y0:l.cell? ⟨K (E wr),0,U⟩=S (Z Y (x.dj:Int)):=by simp[Xc,y]
   have y1:l.cell? ⟨K (E wr),1,U⟩=S (Z Y (x.cR:Int)):=by simp[Xc,y]
   have y2:l.cell? ⟨K (E wr),2,U⟩=S (Z Y x.n):=by simp[Xc,y]
   have aG:K (E wr)<K (E l):=Ui l _ y0;have ai:=r.cell z;have aH:l.frozen? ⟨K (E w)+1,x.dj,U⟩=W9:=r.o.frozenAt x.dj;have aj:=r.lt;have X:=r.own x.dj z;rw[cS I] at X;obtain⟨sl,L⟩:∃sl,f x.dj=sl:=⟨_,rfl⟩
   have ak:=cT r;have an:=r.nd x.dj z;rw[L] at ai X an;have M:=cT L;have ao:S (K (E wr))≠sl.ownBlock:=λe=>by have h:=((cS HV).own x.dj z).lt (K (E wr)) (by rw[L];exact e.symm);omega
   clear L y W r;have P:S (K (E w)+1)≠sl.ownBlock:=λe=>an e.symm
   apply vd (λA w'=>∃f',Hid (sF w' (K (E w)+1) (K (E w)+1) n f' (Es.take (k+1)))/\Hid (Below (K (E w)+1) F w'));apply Exists.intro;apply And.intro
   case left =>
    go_region_law ((refine step_append_lies _ (by rfl) _ _ _ (by rfl) (K (E w)+1) 162 t2 _ 3 24 underlying66 ar au av aw rfl (by omega) sl _ _ (by rfl) (by first|exact X.alloc _|exact(X.alloc _).drew|exact X.drew.alloc _) ⟨K (E l),0,U⟩ 1 1 [Z Y (x.dj:Int),Z Y (x.cR:Int),Z Y x.n] (by rfl) (by rfl) (We (cs := #[Z Y (x.dj:Int),Z Y (x.cR:Int),Z Y x.n]) (t:=162) (fr:=(0,0)) (T9 l _)) (by simp[Value.oneCell']) (by omega) (by unfold maxLen;omega) (by omega) (by simp;omega) (K (E l)+1) (by simp) ?_;intro g1 N w2 B j aq aM;have aR:w2.cell? ⟨K (E w)+1,x.dj,U⟩=S sl:=(j.cell_far ⟨K (E w)+1,x.dj,U⟩ (by simp;omega) P).trans (((T4 (K (E l)) l).alloc WN _).cell (p:=⟨K (E w)+1,x.dj,U⟩) aj.2 |>.trans ai);have aS:w2.cell? ⟨K (E wr),0,U⟩=S (Z Y (x.dj:Int)):=(j.cell_far ⟨K (E wr),0,U⟩ (by simp;omega) ao).trans (((T4 (K (E l)) l).alloc WN _).cell (p:=⟨K (E wr),0,U⟩) aG |>.trans y0);have aT:w2.frozen? ⟨K (E w)+1,x.dj,U⟩=W9:=(j.frozen_far ⟨K (E w)+1,x.dj,U⟩ (by simp;omega) P).trans (((T4 (K (E l)) l).alloc WN _).frozen (p:=⟨K (E w)+1,x.dj,U⟩) aj.2 |>.trans aH)))
    all_goals
     first
      | (have hA:WQ l (l.alloc (D #[Z Y (x.dj:Int),Z Y (x.cR:Int),Z Y x.n] 162)):=(T4 (K (E l)) l).alloc WN _
         have C:=((cS ak).below hA).app x z (cS I) (by rw[cS M];exact j) B (by rw[cS M];rcases aq with h|h;exact Or.inl h;exact Or.inr (by rw[h];simp));rw[<-cS ag] at C;have s:Below (K (E w)+1) F (w2.setCell ⟨K (E w)+1,x.dj,U⟩ (J (S ⟨g1,0,U⟩) (rl+1) N)):=((ah.trans (hA.mono (by omega))).grown j (by simp;omega) (λq hq=>(X.lt q hq).1)).setCell (p:=⟨K (E w)+1,x.dj,U⟩) WN _;generalize Value.slice (S ⟨g1,0,U⟩) (rl+1) N=A at *;exact⟨O,A,O,_,C,s⟩)
      | (have hA:WQ l (l.alloc (D #[Z Y (x.dj:Int),Z Y (x.cR:Int),Z Y x.n] 162)).drew:=((T4 (K (E l)) l).alloc WN _).drew
         have C:=((cS ak).below hA).app x z (cS I) (by rw[cS M];exact j) B (by rw[cS M];rcases aq with h|h;exact Or.inl h;exact Or.inr (by rw[h];simp));rw[<-cS ag] at C;have s:Below (K (E w)+1) F (w2.setCell ⟨K (E w)+1,x.dj,U⟩ (J (S ⟨g1,0,U⟩) (rl+1) N)):=((ah.trans (hA.mono (by omega))).grown j (by simp;omega) (λq hq=>(X.lt q hq).1)).setCell (p:=⟨K (E w)+1,x.dj,U⟩) WN _;generalize Value.slice (S ⟨g1,0,U⟩) (rl+1) N=A at *;exact⟨O,A,O,_,C,s⟩)
      |trace_state
   case right =>
   rintro A w4 ⟨f',aI,aJ⟩;go_wp2;go_roundw
   case rel=>exact⟨k+1,f',by omega,by go_num,aI,cS aJ⟩
   case measure=>simp[intOf];omega
  .have af:¬(k:Int)<(m:Int):=by omega
   have aK:k=Es.length:=by rw[cS HM];omega
   have aL:Hid (b (WZ (J (S ⟨K (E w)+1,0,U⟩) n n)) wr):=by
    show b _ _
    rw[<-cS hO];have h:=cS HV;rw[aK,Vd] at h;exact⟨ae,_,f,O,h.low (by omega)⟩
   go_wp2;exact cS aL
end
section
def Qj(B:Nat)(j:Option Addr)(n l cY:Nat)(Es:List Sp.Ed)(w:WR)(e:Ending)(w':WR):Prop:=WQ w w'/\∃b m,e=WZ (WY (dV B j n l b m cY))/\IG w' b n Es
end
namespace Ru
open Sp (Pg Ed Cfg)
def Mj(j hi:Nat)(w:WR)(pe:Option Addr)(n:Nat)(Es:List Ed):Prop := ∀i,i<n->∃b p e,pe=S ⟨b,0,U⟩/\(j<=b/\b<hi)/\w.cell? ⟨b,i,U⟩=S (J p (Sp.iE Es i).length e)/\gh w p (Sp.iE Es i)/\(∀a,p=S a->j<=a.block/\a.block<hi)
theorem Mj.eb{m hi:Nat}{w:WR}{pe:Option Addr}{n:Nat}{Es:List Ed}(h:Mj m hi w pe n Es)(r:hi<=K (E w)):IG w pe n Es:=λi j=>by
 obtain⟨e,p,l,a,b,c,d,_⟩:=h i j;exact⟨e,p,l,a,by omega,c,d⟩
theorem PR{m:Nat}{w:WR}{L b n:Nat}{f:Nat->WS}{E:List Sp.Ed}(h:sF w L b n f E)(z:m<=L):Mj m w.heap.size w (S ⟨b,0,U⟩) n E:=λi hi=>by
 have j:=h.own i hi;obtain⟨p,r,u,A⟩:=l7 j;refine⟨b,p,r,O,⟨by have:=h.lt;omega,h.lt.2⟩,by rw[h.cell hi,u],A,λa l=>?_⟩;rcases j.2 with ⟨e,_⟩|⟨g,y,B,e,F,C,_⟩
 .rw[u] at e;injection e with e _ _;rw[e] at l;cases l
 .rw[u] at e;injection e with e _ _;rw[e] at l;have l:⟨g,0,U⟩=a:=Ut l;subst l;exact⟨by show m<=g;omega,(Ug.1 C).1⟩
def yz(B:Nat)(j:Option Addr)(n l cY:Nat)(Es:List Sp.Ed)(w:WR)(e:Ending)(w':WR):Prop:=WQ w w'/\∃b m,e=WZ (WY (dV B j n l b m cY))/\Mj (K (E w)) (K (E w')) w' b n Es
theorem uV(T:Option Addr)(n V:Nat)(u:Option Addr)(y:Nat)(pe:Option Addr)(ke B cY:Nat)(Es:List Sp.Ed)(w:WR)(he:gh w pe Es)(hn:n<=64)(hm:Es.length<=256)(M:∀x∈Es,x.dj<n):WT prog 24 #[WY #[J T n V,J u n y,J pe Es.length ke],WV (S ⟨B,0,U⟩),Z Y cY] w (yz B u n y cY Es w):=by
 generalize X:yz B u n y cY Es w=b;replace X:=cT X;have q:=cT (λW (hb:WQ w W)=>Tt T n V u y pe ke Es W (he.below hb) hn hm M);have N:=cT (re w #[J T n V,J u n y,J pe Es.length ke] #[WV U,J U 0 0,J U 0 0,Z Y 0] 68 75);clear he M;generalize Es.length=m at *;have t:Hid (∀(args:Array WS) (w:WR),(callFunc 39 args).run prog w=.ok (.enter 39 args) w):=cZ func39 (by kernel_rfl) (by kernel_rfl);go_enter func24,ntmps24;go_upto_region 1 with fail;generalize hW:Xe (Xe _ _) _=C;obtain⟨F,P,L,ad⟩:=cS N C hW.symm;clear hW N;have g0:C.cell? ⟨K (E w),0,U⟩=S (J T n V):=by simp[Xc,F]
 have g1:C.cell? ⟨K (E w),1,U⟩=S (J u n y):=by simp[Xc,F]
 have g2:C.cell? ⟨K (E w),2,U⟩=S (J pe m ke):=by simp[Xc,F]
 have s:K (E w)<K (E C):=by omega
 have z:K (E w)+1<K (E C):=by omega
 have o:=cT P;clear F P
 go_region_law (refine du (by rfl) _ _ _ (by rfl) 39 (by rfl) _ (by rfl) (cS t) (cS q _ (by first|exact L|exact L.drew)) ?_;rintro e r ⟨A,l,f,rfl,hv⟩;dsimp only;have G:WQ C r:=(by first|exact A|exact WO.drew.trans (A.mono WN));have Q:sF r (K (E C)) l n f Es:=hv;have q1:r.cell? ⟨K (E w),1,U⟩=S (J u n y):=(G.cell (p:=⟨K (E w),1,U⟩) s).trans g1;have I:=(G.block _ z).trans (cS o);have r0:r.cell? ⟨K (E w)+1,0,U⟩=S (WV U):=(by simp[Xc,I]);have r1:r.cell? ⟨K (E w)+1,1,U⟩=S (J U 0 0):=(by simp[Xc,I]);have r2:r.cell? ⟨K (E w)+1,2,U⟩=S (J U 0 0):=(by simp[Xc,I]);have r3:r.cell? ⟨K (E w)+1,3,U⟩=S (Z Y 0):=(by simp[Xc,I]);have f0:r.frozen? ⟨K (E w)+1,0,U⟩=W9:=(by simp[World.frozen?,I]);have f1:r.frozen? ⟨K (E w)+1,1,U⟩=W9:=(by simp[World.frozen?,I]);have f2:r.frozen? ⟨K (E w)+1,2,U⟩=W9:=(by simp[World.frozen?,I]);have f3:r.frozen? ⟨K (E w)+1,3,U⟩=W9:=(by simp[World.frozen?,I]);have g:=cT G;have aa:=cT Q;clear G A hv Q I)
 all_goals
  have ab:Hid (b (WZ (WY #[WV (S ⟨B,0,U⟩),J u n y,J (S ⟨l,0,U⟩) n n,Z Y cY])) ((((r.setCell ⟨K (E w)+1,0,U⟩ (WV (S ⟨B,0,U⟩))).setCell ⟨K (E w)+1,1,U⟩ (J u n y)).setCell ⟨K (E w)+1,2,U⟩ (J (S ⟨l,0,U⟩) n n)).setCell ⟨K (E w)+1,3,U⟩ (Z Y cY))):=by
   show b _ _
   rw[<-cS X];have h1:=((((cS aa).Om (R:=K (E w)+1) (j:=0) (v := WV (S ⟨B,0,U⟩)) z).Om (R:=K (E w)+1) (j:=1) (v := J u n y) z).Om (R:=K (E w)+1) (j:=2) (v := J (S ⟨l,0,U⟩) n n) z).Om (R:=K (E w)+1) (j:=3) (v := Z Y cY) z;have h2:WQ w r:=L.trans ((cS g).mono (by omega));exact⟨(((h2.setCell (p:=⟨K (E w)+1,0,U⟩) (U0 _) _).setCell (p:=⟨K (E w)+1,1,U⟩) (U0 _) _).setCell (p:=⟨K (E w)+1,2,U⟩) (U0 _) _).setCell (p:=⟨K (E w)+1,3,U⟩) (U0 _) _,_,_,O,PR h1 (by omega)⟩
  first
   | (go_wp2;exact T8 (v := WY #[WV (S ⟨B,0,U⟩),J u n y,J (S ⟨l,0,U⟩) n n,Z Y cY]) (by simp[results,results24,go_sem,r0,r1,r2,r3]) O (cS ab))
   |trace_state
end Ru
section
theorem MW(m:Option Addr)(n r:Nat)(b:Option Addr)(j:Nat)(pe:Option Addr)(ke B cY:Nat)(Es:List Sp.Ed)(w:WR)(he:gh w pe Es)(u:n<=64)(y:Es.length<=256)(l:∀x∈Es,x.dj<n):WT prog 24 #[WY #[J m n r,J b n j,J pe Es.length ke],WV (S ⟨B,0,U⟩),Z Y cY] w (Qj B b n j cY Es w):=by
 refine(Ru.uV m n r b j pe ke B cY Es w he u y l).mono ?_;rintro e F ⟨z,p,k,A,C⟩;exact⟨z,p,k,A,C.eb WN⟩
end
section
def vO(b:Sp.nH)(w:WR)(e:Ending)(w':WR):Prop:=WQ w w'/\∃v,e=WZ (WY #[Z .u8 b.outcome,Z Y b.step,Z Y b.dt,v])/\w'.ownsRow (K (E w)) 2 1 v (Xg b.dA) (b.dA.map (Z Y))
theorem LA{b:Sp.nH}{w m:WR}{o s i:Int}{V:List Int}{p:Option Addr}{n k B:Nat}(r:(b.outcome:Int)=o/\(b.step:Int)=s/\(b.dt:Int)=i/\b.dA=V/\(Xg V)=n)(hb:WQ w m)(y:m.ownsRow B 2 1 (J p n k) n (V.map (Z Y)))(z:K (E w)+1+1<B):vO b w (WZ (WY #[Z .u8 o,Z Y s,Z Y i,J p n k])) (j6 m (K (E w)+1+1) (Z .u8 o) (Z Y s) (Z Y i) (J p n k)):=by
 obtain⟨A,C,F,G,I⟩:=r;refine⟨?_,J p n k,by rw[A,C,F],?_⟩
 .have e:K (E w)<=K (E w)+1+1:=by omega
  exact(((hb.setCell (p:=⟨K (E w)+1+1,0,U⟩) e _).setCell (p:=⟨K (E w)+1+1,1,U⟩) e _).setCell (p:=⟨K (E w)+1+1,2,U⟩) e _).setCell (p:=⟨K (E w)+1+1,3,U⟩) e _
 .rw[G,I];have l:∀{W:WR} (j:Nat) (u:WS),W.ownsRow B 2 1 (J p n k) n (V.map (Z Y))->(W.setCell ⟨K (E w)+1+1,j,U⟩ u).ownsRow B 2 1 (J p n k) n (V.map (Z Y)):=λj u h=>Um h (a:=⟨K (E w)+1+1,j,U⟩) z u
  exact fy (l 3 _ (l 2 _ (l 1 _ (l 0 _ y)))) (by omega)
structure M9 (W0 wr:WR) (K n:Nat) (P:Sp.Pg) (Es:List Sp.Ed) (cY s:Nat) (c:Sp.Cfg) (p:Option Addr) (cap:Nat) (res:Sp.nH):Prop where
 cb:wr.heap[K]?=S (D #[Z Y (s:Int),J p n cap,Z Y c.all] 80 (0,0))
 vx:kg wr p c n
 ok:Sp.eY n c
 go:Sp.CI P Es cY (cY+1-s) s c=res
 sv:eI K K W0 wr
def te(K:Nat)(w:WR):Nat:=match w.cell? ⟨K,0,U⟩ with
 |some v=>(intOf v).toNat
 |none=>0
theorem nr{w:WR}{K:Nat}{n:Int}(h:w.cell? ⟨K,0,U⟩=S (Z Y n)):te K w=n.toNat:=by
 unfold te;rw[h];rfl
theorem M9.next{C l:WR}{K n:Nat}{P:Sp.Pg}{Es:List Sp.Ed}{cY s cap B:Nat}{p:Option Addr}{c:Sp.Cfg}{m:Sp.nH}{x y z:WS}(o:Obj)(hb:l.heap[K]?=S (D #[x,y,z] 80 (0,0)))(G:l.ownsRow B 104 4 (J p n cap) n (jg c.val c.fC c.iI c.jf n))(I:K<B)(L:Sp.eY n c)(M:Sp.CI P Es cY (cY+1-(s+1)) (s+1) c=m)(N:eI K K C l):M9 C ((fS l K (Z Y ((s:Int)+1)) (J p n cap) (Z Y c.all)).alloc o) K n P Es cY (s+1) c p cap m:=by
 have r:=eZ (i:=2) (eZ (i:=1) (eZ (i:=0) hb (Z Y ((s:Int)+1))) (J p n cap)) (Z Y c.all);have b:(fS l K (Z Y ((s:Int)+1)) (J p n cap) (Z Y c.all)).heap[K]?=S (D #[Z Y ((s:Int)+1),J p n cap,Z Y c.all] 80 (0,0)):=by
  unfold fS;simpa using r
 have u:Below (fS l K (Z Y ((s:Int)+1)) (J p n cap) (Z Y c.all)).heap.size (fS l K (Z Y ((s:Int)+1)) (J p n cap) (Z Y c.all)) ((fS l K (Z Y ((s:Int)+1)) (J p n cap) (Z Y c.all)).alloc o):=WO.alloc WN _;have A:=pG G I (Z Y ((s:Int)+1)) (J p n cap) (Z Y c.all);obtain⟨R,F,e,Q⟩:=gU (all:=c.all) A;injection e with e1 _ e3;subst e1 e3;refine⟨?_,kg.below Q u,L,M,?_⟩
 .rw[u.block K (Ug.1 b).1,b];rfl
 .exact(((N.set (q:=K) (j:=0) (Or.inl O) _).set (q:=K) (j:=1) (Or.inl O) _).set (q:=K) (j:=2) (Or.inl O) _).trans (eI.gQ u)
theorem prun(B:Nat)(pf:Option Addr)(n kf:Nat)(pe:Option Addr)(ke cY:Nat)(P:Sp.Pg)(Es:List Sp.Ed)(p:Option Addr)(cap:Nat)(c0:Sp.Cfg)(z f:Addr)(F:Nat)(r:Sp.nH)(w:WR)(hp:jJ w B P)(aI:jY w z f)(he:IG w pe n Es)(hv:kg w p c0 n)(aJ:Sp.eY n c0)(hj:Sp.iO P Es n)(hl:cY<=200)(ar:Sp.CI P Es cY (cY+1) 0 c0=r)(bj:∀(args:Array WS) (w:WR),(callFunc F args).run prog w=.ok (.enter F args) w)(aK:∀(a:Int) (q:Option Addr) (m k:Nat) (b:Int) (W:WR),WT prog F #[WY #[Z Y a,J q m k,Z Y b]] W λe w'=>e=WZ (WX #[])/\WQ W w'):WT prog 25 #[WY (dV B pf n kf pe ke cY),gy 0 p n cap c0.all,.func (.func F) #[] #[]] w (vO r w):=by
 generalize hO:vO r w=j;replace hO:=cT hO;have HP:=cT hp;have HR:=cT aI;have HE:=cT he;have HJ:=cT hj;have aX:=cT aK;have ab:=hj.It;have aL:=cT (jj w (dV B pf n kf pe ke cY) #[Z Y 0,J p n cap,Z Y c0.all] #[Z .u8 0,Z Y 0,Z Y 0,J U 0 0] 75 80 32);have aM:Hid (∀W,WQ w W->W.heap[K (E w)+1]?=S (D #[Z Y 0,J p n cap,Z Y c0.all] 80 (0,0))->M9 W W (K (E w)+1) n P Es cY 0 c0 p cap r):=λW hb hk=>⟨hk,hv.below hb,aJ,ar,eI.refl _ _ _⟩
 have au:Hid (∀(args:Array WS) (w:WR),(callFunc 41 args).run prog w=.ok (.enter 41 args) w):=cZ func41 (by kernel_rfl) (by kernel_rfl);clear hp aI he hv aJ hj aK ar;unfold gy;unfold dV at *;go_enter func25,ntmps25;go_wp2_with fail;generalize hW:Xe (Xe _ _) _=W0;obtain⟨aN,aO,aP,aQ,bk⟩:=cS aL W0 hW.symm;have aY:=cT aN;have aZ:=cT aP;have aR:=cT (cS aM W0 aQ aO);clear hW aL aN aO aP aM
 go_loopw [7] (λ_ wr=>∃(s:Nat) (c:Sp.Cfg) (p:Option Addr) (cap:Nat),s<=cY/\Hid (M9 W0 wr (K (E w)+1) n P Es cY s c p cap r)) (λ_ wr=>cY+1-te (K (E w)+1) wr)
 case atStart=>exact⟨0,c0,p,cap,Ud _,aR⟩
 case round =>
  clear aR;obtain⟨s,c,p,cap,hs,HI⟩:=hrel;have ad:=(cS HI).sv;have bd:=ad.size;have I:WQ w wr:=aQ.trans (ad.below (by omega) (by omega) (by omega));have t:=cT ((ad.block (K (E w)+1+1) (by omega) (by omega) (by omega)).trans (cS aZ));have az:=cT ((ad.block (K (E w)) (by omega) (by omega) (by omega)).trans (cS aY));obtain⟨j0,j1,j2,j3⟩:=fK (B:=B) (pf:=pf) (n:=n) (kf:=kf) (pe:=pe) (ke:=ke) (cY:=cY) (cS az);obtain⟨k0,k1,k2,_⟩:=dQ (cS HI).cb;have a1:Hid (te (K (E w)+1) wr=s):=by show _=_;rw[nr k0];rfl
  have ak:=cT (pending B pf n kf pe ke cY s p n cap c wr (cS HI).vx (cS HI).ok.lv ab (by omega) hl);unfold gy dV at ak;have aS:=AI cY c s;obtain⟨en,aA⟩:∃en,Hid (Sp.gA cY c s=en):=⟨_,rfl⟩
  rw[cS aA] at ak aS;go_wp2_with fail;refine(cS ak).mono ?_;rintro e w2 ⟨rfl,M⟩;have bn:=M.size;have u:Hid (M9 W0 w2 (K (E w)+1) n P Es cY s c p cap r):=⟨(M.block _ (Ug.1 (cS HI).cb).1).trans (cS HI).cb,(cS HI).vx.below M,(cS HI).ok,(cS HI).go,(cS HI).sv.trans (eI.gQ M)⟩
  have X:WQ w w2:=I.trans (M.mono I.size);have ae:=cT ((M.block (K (E w)+1+1) (by omega)).trans (cS t));have av:=cT ((M.block (K (E w)) (by omega)).trans (cS az));clear j0 j1 j2 j3 k0 k1 k2 ak t az I ad M;obtain⟨k0,k1,k2,_⟩:=dQ (cS u).cb;have an:K (E w)+1<K (E w2):=by omega
  have ao:K (E w)+1+1<K (E w2):=by omega
  by_cases c1:en=0
  .subst c1;obtain⟨bg,aB⟩:=P1 (cS u).go hs (cS aA);rw[(cS u).ok.lv] at aB;have aC:=cT aB;clear aB aS HI;go_wp2_with fail;refine(cS aX _ _ _ _ _ _).mono ?_;rintro e w3 ⟨rfl,N⟩;have bo:=N.size;have Q:WQ w w3:=X.trans (N.mono X.size);have y:Hid (M9 W0 w3 (K (E w)+1) n P Es cY s c p cap r):=⟨(N.block _ an).trans (cS u).cb,(cS u).vx.below N,(cS u).ok,(cS u).go,(cS u).sv.trans (eI.gQ N)⟩
   have aw:=cT ((N.block (K (E w)+1+1) ao).trans (cS ae));have af:=cT ((N.block (K (E w)) (by omega)).trans (cS av));clear k0 k1 k2 u ae av N X;obtain⟨j0,j1,j2,j3⟩:=fK (B:=B) (pf:=pf) (n:=n) (kf:=kf) (pe:=pe) (ke:=ke) (cY:=cY) (cS af);obtain⟨k0,k1,k2,_⟩:=dQ (cS y).cb;have g:=cT (Kf B pf n kf pe ke cY P Es p cap s c z f w3 ((cS HP).below Q) ((cS HR).below Q) ((cS HE).below Q) (cS y).vx (cS y).ok (cS HJ) (by omega));unfold gy dV at g;obtain⟨o,aT⟩:∃o,Hid (Sp.lI P Es c s n=o):=⟨_,rfl⟩
   rw[cS aT] at g aC;go_wp2_with fail;cases o with
   |error i =>
    refine(cS g).mono ?_;rintro e w4 ⟨A,rfl⟩;have a6:=A.size;have ax:WQ w w4:=Q.trans (A.mono Q.size);have aq:Hid (M9 W0 w4 (K (E w)+1) n P Es cY s c p cap r):=⟨(A.block _ (by omega)).trans (cS y).cb,(cS y).vx.below A,(cS y).ok,(cS y).go,(cS y).sv.trans (eI.gQ A)⟩
    have ag:Hid ((r.outcome:Int)=3/\(r.step:Int)=(s:Int)/\(r.dt:Int)=(i:Int)/\r.dA=c.val/\(Xg c.val)=n):=by
     have h:(⟨3,s,i,c.val⟩:Sp.nH)=r:=cS aC;rw[<-h];exact⟨O,O,O,O,(cS aq).ok.lv⟩
    have ay:=(A.block (K (E w)+1+1) (by omega)).trans (cS aw);clear j0 j1 j2 j3 k0 k1 k2 y af A g;go_upto_region 7 with fail;generalize aU:Xe _ _=w5;have aa:WQ w4 w5:=by rw[<-aU];exact WO.alloc WN _
    have bp:=aa.size;have t:=cT ((aa.block (K (E w)+1+1) (by omega)).trans ay);have I:WQ w w5:=ax.trans (aa.mono ax.size);obtain⟨k0,k1,k2,_⟩:=dQ ((aa.block _ (by omega)).trans (cS aq).cb);have an:K (E w)+1<K (E w5):=by omega
    have ao:K (E w)+1+1<K (E w5):=by omega
    have aD:K (E w)+1+1<K (E w5):=by omega
    have ah:Hid (∀W,WQ w5 W->WT prog 41 #[WY #[Z Y (s:Int),J p n cap,Z Y c.all]] W λe w'=>WQ W w'/\∃v,e=WZ v/\w'.ownsRow (K (E w5)) 2 1 v n (c.val.map (Z Y))):=by
     show ∀W,_
     intro W hW;refine(rS s p n cap c W (((cS aq).vx.below aa).below hW) (cS aq).ok.lv ab).mono ?_;rintro e w' ⟨h1,v,h2,h3⟩;exact⟨h1,v,h2,fy h3 hW.size⟩
    clear aU aa ay
    go_region_law (refine du (by rfl) _ _ _ (by rfl) 41 (by rfl) _ (by rfl) (cS au) (cS ah _ (by first|exact T4 _ _|exact WO.drew)) ?_;rintro e C ⟨G,vv,rfl,R⟩;obtain⟨T,V,ai,_⟩:=dm R;subst ai;dsimp only;have L:WQ w5 C:=(by first|exact G|exact WO.drew.trans (G.mono WN));have q0:C.cell? ⟨K (E w)+1,0,U⟩=S (Z Y (s:Int)):=(L.cell (p:=⟨K (E w)+1,0,U⟩) an).trans k0;have l:=(L.block (K (E w)+1+1) ao).trans (cS t);have r0:C.cell? ⟨K (E w)+1+1,0,U⟩=S (Z .u8 0):=(by simp[Xc,l]);have a7:C.frozen? ⟨K (E w)+1+1,0,U⟩=W9:=(by simp[World.frozen?,l]);have r1:C.cell? ⟨K (E w)+1+1,1,U⟩=S (Z Y 0):=(by simp[Xc,l]);have a8:C.frozen? ⟨K (E w)+1+1,1,U⟩=W9:=(by simp[World.frozen?,l]);have r2:C.cell? ⟨K (E w)+1+1,2,U⟩=S (Z Y 0):=(by simp[Xc,l]);have ba:C.frozen? ⟨K (E w)+1+1,2,U⟩=W9:=(by simp[World.frozen?,l]);have r3:C.cell? ⟨K (E w)+1+1,3,U⟩=S (J U 0 0):=(by simp[Xc,l]);have bc:C.frozen? ⟨K (E w)+1+1,3,U⟩=W9:=(by simp[World.frozen?,l]);have aE:=cT L;have aF:=cT R;clear L G R l)
    all_goals
     have aG:Hid (j (WZ (WY #[Z .u8 3,Z Y (s:Int),Z Y (i:Int),J T n V])) (j6 C (K (E w)+1+1) (Z .u8 3) (Z Y (s:Int)) (Z Y (i:Int)) (J T n V))):=by
      show j _ _
      rw[<-cS hO];exact LA (cS ag) (I.trans ((cS aE).mono I.size)) (cS aF) aD
     first
      | (go_wp2;exact T8 (v := WY #[Z .u8 3,Z Y (s:Int),Z Y (i:Int),J T n V]) (by simp[results,results25,go_sem,r0,r1,r2,r3]) O (cS aG))
      |trace_state
   |ok a =>
    refine(cS g).mono ?_;rintro e w4 ⟨A,sl,rfl,aH⟩;have a6:=A.size;obtain⟨pn,kn,ai,_⟩:=dm aH;subst ai;have aV:Sp.eY n (Sp.fh P n a):=Sp.rZ (cS HJ) (Sp.sI (cS HJ) lN (cS y).ok (by omega) n WN a (cS aT));have aj:=(A.block (K (E w)+1) (by omega)).trans (cS y).cb;have aW:Hid (∀o,M9 W0 ((fS w4 (K (E w)+1) (Z Y ((s:Int)+1)) (J pn n kn) (Z Y a.all)).alloc o) (K (E w)+1) n P Es cY (s+1) (Sp.fh P n a) pn kn r):=λo=>M9.next o aj aH (by omega) aV (cS aC) ((cS y).sv.trans (eI.gQ A))
    clear j0 j1 j2 j3 k0 k1 k2;obtain⟨k0,k1,k2,kf⟩:=dQ aj;have f0:=kf 0;have f1:=kf 1;have f2:=kf 2;have bh:K (E w)+1<K (E w4):=by omega
    clear aH A aj y af g aw kf;go_wp2;go_roundw
    case rel=>exact⟨s+1,_,pn,kn,by omega,cT (cS aW _)⟩
    case measure =>
     have h1:=cS a1;have h2:=nr (dQ (cS aW (D #[Z Y ((s:Int)+1),J pn n kn,Z Y a.all] 80)).cb).1;unfold fS at h2;rw[h1,h2];omega
  .have bq:(en != 0)=true:=by rw[VH];exact c1
   obtain⟨e1,e2,e3,e4⟩:=N8 (cS u).go hs (cS aA) c1;have ag:Hid ((r.outcome:Int)=en/\(r.step:Int)=(s:Int)/\(r.dt:Int)=0/\r.dA=c.val/\(Xg c.val)=n):=⟨e1,by rw[e2],by rw[e3];rfl,e4,(cS u).ok.lv⟩
   have t:=ae;have I:=X;have aD:K (E w)+1+1<K (E w2):=by omega
   have ah:Hid (∀W,WQ w2 W->WT prog 41 #[WY #[Z Y (s:Int),J p n cap,Z Y c.all]] W λe w'=>WQ W w'/\∃v,e=WZ v/\w'.ownsRow (K (E w2)) 2 1 v n (c.val.map (Z Y))):=by
    show ∀W,_
    intro W hW;refine(rS s p n cap c W ((cS u).vx.below hW) (cS u).ok.lv ab).mono ?_;rintro e w' ⟨h1,v,h2,h3⟩;exact⟨h1,v,h2,fy h3 hW.size⟩
   clear e1 e2 e3 e4 c1;go_upto_region 3 with fail
   go_region_law (refine du (by rfl) _ _ _ (by rfl) 41 (by rfl) _ (by rfl) (cS au) (cS ah _ (by first|exact T4 _ _|exact WO.drew)) ?_;rintro e C ⟨G,vv,rfl,R⟩;obtain⟨T,V,ai,_⟩:=dm R;subst ai;dsimp only;have L:WQ w2 C:=(by first|exact G|exact WO.drew.trans (G.mono WN));have q0:C.cell? ⟨K (E w)+1,0,U⟩=S (Z Y (s:Int)):=(L.cell (p:=⟨K (E w)+1,0,U⟩) an).trans k0;have l:=(L.block (K (E w)+1+1) ao).trans (cS t);have r0:C.cell? ⟨K (E w)+1+1,0,U⟩=S (Z .u8 0):=(by simp[Xc,l]);have a7:C.frozen? ⟨K (E w)+1+1,0,U⟩=W9:=(by simp[World.frozen?,l]);have r1:C.cell? ⟨K (E w)+1+1,1,U⟩=S (Z Y 0):=(by simp[Xc,l]);have a8:C.frozen? ⟨K (E w)+1+1,1,U⟩=W9:=(by simp[World.frozen?,l]);have r2:C.cell? ⟨K (E w)+1+1,2,U⟩=S (Z Y 0):=(by simp[Xc,l]);have ba:C.frozen? ⟨K (E w)+1+1,2,U⟩=W9:=(by simp[World.frozen?,l]);have r3:C.cell? ⟨K (E w)+1+1,3,U⟩=S (J U 0 0):=(by simp[Xc,l]);have bc:C.frozen? ⟨K (E w)+1+1,3,U⟩=W9:=(by simp[World.frozen?,l]);have aE:=cT L;have aF:=cT R;clear L G R l)
   all_goals
    have aG:Hid (j (WZ (WY #[Z .u8 en,Z Y (s:Int),Z Y 0,J T n V])) (j6 C (K (E w)+1+1) (Z .u8 en) (Z Y (s:Int)) (Z Y 0) (J T n V))):=by
     show j _ _
     rw[<-cS hO];exact LA (cS ag) (I.trans ((cS aE).mono I.size)) (cS aF) aD
    first
     | (go_wp2;exact T8 (v := WY #[Z .u8 en,Z Y (s:Int),Z Y 0,J T n V]) (by simp[results,results25,go_sem,r0,r1,r2,r3]) O (cS aG))
     |trace_state
end
end Go.Proofs.YtgkkdpegcieakaaGreatDoor
