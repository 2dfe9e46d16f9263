import Derived.Test.YtgkkdpegcieakaaGreatDoorCv27
import Derived.Test.YtgkkdpegcieakaaGreatDoorCv23
set_option linter.all false
set_option maxRecDepth 100000
set_option maxHeartbeats 0
namespace Go.Proofs.YtgkkdpegcieakaaGreatDoor
open Go.Proofs.Tryz
open Value renaming int→Z,slice→J,string→H,pointer→V9,bool→Wa,tuple→Wb,agg→Wc
open Ending renaming returned→Wd
open Obj renaming cells→D
open Option renaming none→U,some→S
open Bool renaming true→We,false→Wg
open Or renaming inl→Wh,inr→Wi
open List renaming length→Wn
open _root_.Array renaming size→N
open World renaming cell?→Wj,alloc→Wl,heap→E
open IntKind renaming i64→Y
open Go renaming World→V5,Value→V6,Calls→V7
open Go.RowKit
def A3(P:Sp.Pg)(b:List Int)(n:Nat)(w:V5)(e:Ending)(w':V5):Prop:=V4 w w'/\∃sl,e=Wd (Wc #[Z Y 0,sl,Z Y (Sp.eT P.al)])/\w'.ownsRow (N (E w)) 104 4 sl n (jk b [] [] (List.replicate n (Sp.eT P.pq)) n)
theorem Lh(B:Nat)(pf:Option Addr)(n kf:Nat)(pe:Option Addr)(ke cZ:Nat)(P:Sp.Pg)(m:List Int)(w:V5)(hp:jH w B P)(hv:fG w Y pf m)(hl:Wn m=n)(hn:n<=64):V7 prog 26 #[Wc (dY B pf n kf pe ke cZ)] w (A3 P m n w):=by
 obtain⟨t2,ab,ad,ae,af⟩:=TN info_vertex;generalize hO:A3 P m n w=b;replace hO:=cU hO;have HP:=cU hp;have HV:=cU hv;have HL:=cU hl;have G:=cU (rD w (dY B pf n kf pe ke cZ) #[Z Y 0,J U 0 0,Z Y 0] 75 80);clear hp hv hl;unfold dY at *;go_enter func26,ntmps26;go_wp2_with fail;generalize hW:Wl (Wl _ _) _=W0;obtain⟨I,K,ag,L⟩:=cT G W0 hW.symm;have ah:=cU I;have ai:=cU K;have aj:=cU L;clear hW G I K L
 go_loopw [3,9] (λvv i wr=>∃(k:Nat) (v:V6),k<=n/\i=Z Y k/\vv=v/\Hid (wr.ownsRow (N (E w)+1+1) 104 4 v k (jk m [] [] [] k))/\Below (N (E w)+1+1) W0 wr) (λ_ i _=>n-(intOf i).toNat)
 case atStart=>exact⟨0,_,Tp _,rfl,rfl,TH _ _ _ _,Th _ _⟩
 case round =>
  obtain⟨k,v,hk,rfl,M,HR,Q⟩:=hrel;obtain rfl:=M.symm;clear M;have z:V4 w wr:=ag.trans (Q.mono (by omega));have ak:N (E w)+1+1<=N (E wr):=by have:=Q.size;have:=cT aj;omega
  by_cases an:k<n
  .have T:(k:Int)<(n:Int):=by omega
   have g0:(0:Int)<=(k:Int):=TS _;have V:k<Wn m:=by rw[cT HL];exact an
   obtain⟨g,rfl,hg,d0⟩:=((cT HV).below z) k V;have ao:Hid (jk m [] [] [] (k+1)=jk m [] [] [] k++[Z Y m[k],Wa Wg,Z Y 0,Z Y 0]):=by
    show _=_
    rw[mq,Ty (l:=m),Tw V];rfl
   generalize m[k]=x0 at *;have hr:=cT HR;go_wp2_with (first
    | (at_builtin;go_must (refine wpList_append_lies _ O (.tmp 13) (.tmp 16) 78 O (N (E w)+1+1) 104 t2 _ 4 32 underlying78 ab ad ae af O (by omega) v _ _ O (hr.alloc _) ⟨N (E wr),0,U⟩ 1 1 [Z Y x0,Wa Wg,Z Y 0,Z Y 0] O O (Vv (cs := #[Z Y x0,Wa Wg,Z Y 0,Z Y 0]) (t:=104) (fr:=(0,0)) (Tk wr _)) (by simp[Value.oneCell']) (by omega) (by unfold maxLen;omega) (by omega) (by simp;omega) (N (E wr)+1) (by simp) ?_;intro g2 aq r A u ar W))
    |go_in)
   have y:Below (N (E w)+1+1) W0 r:=(Q.alloc ak _).grown u (by simp;omega) (λq hq=>(hr.lt q hq).1);have au:Hid (r.ownsRow (N (E w)+1+1) 104 4 (J (S ⟨g2,0,U⟩) (k+1) aq) (k+1) (jk m [] [] [] (k+1))):=by
    show World.ownsRow _ _ _ _ _ _ _
    rw[cT ao];exact A
   clear A u ar W hr;go_wp2;go_roundw
   case rel=>exact⟨k+1,_,by omega,by go_num,rfl,au,y⟩
   case measure=>simp[intOf];omega
  .obtain rfl:k=n:=by omega
   have T:¬(k:Int)<(k:Int):=by omega
   obtain⟨p,av,rfl,X⟩:=gV (all:=0) (cT HR);have HU:=cU (EO B pf k kf pe ke cZ 0 p k av P ⟨m,[],[],[],0⟩ wr ((cT HP).below z) X hn);have s:wr.heap[N (E w)]?=_:=(Q.block _ (by omega)).trans (cT ah);have j0:wr.cell? ⟨N (E w),0,U⟩=S (V9 (S ⟨B,0,U⟩)):=by simp[Wj,s]
   have j1:wr.cell? ⟨N (E w),1,U⟩=S (J pf k kf):=by simp[Wj,s]
   have j2:wr.cell? ⟨N (E w),2,U⟩=S (J pe k ke):=by simp[Wj,s]
   have j3:wr.cell? ⟨N (E w),3,U⟩=S (Z Y cZ):=by simp[Wj,s]
   have hR:wr.heap[N (E w)+1]?=_:=(Q.block _ (by omega)).trans (cT ai);have o:=cU hR;clear s hR X;unfold dY at HU;go_wp2_with fail;refine(cT HU).mono ?_;rintro e r ⟨y,sl,rfl,C⟩;have j:r.heap[N (E w)+1]?=_:=(y.block _ (by omega)).trans (cT o);have r0:r.cell? ⟨N (E w)+1,0,U⟩=S (Z Y 0):=by simp[Wj,j]
   have r1:r.cell? ⟨N (E w)+1,1,U⟩=S (J U 0 0):=by simp[Wj,j]
   have r2:r.cell? ⟨N (E w)+1,2,U⟩=S (Z Y 0):=by simp[Wj,j]
   have ax:r.frozen? ⟨N (E w)+1,0,U⟩=Wg:=by simp[World.frozen?,j]
   have ay:r.frozen? ⟨N (E w)+1,1,U⟩=Wg:=by simp[World.frozen?,j]
   have az:r.frozen? ⟨N (E w)+1,2,U⟩=Wg:=by simp[World.frozen?,j]
   obtain⟨q0,k0,e0,_⟩:=dm C;subst e0;obtain⟨F,aa⟩:∃F,Hid (Sp.eT P.al=F):=⟨_,rfl⟩
   rw[cT aa];have aw:Hid (b (Wd (Wc #[Z Y 0,J q0 k k0,Z Y F])) (fM r (N (E w)+1) (Z Y 0) (J q0 k k0) (Z Y F))):=by
    have h1:=fB (pG C (R:=N (E w)+1) (by omega) (Z Y 0) (J q0 k k0) (Z Y F)) (B:=N (E w)) (by omega)
    show b _ _
    rw[<-cT hO];exact⟨mO (z.trans (y.mono z.size)) (by omega) _ _ _,_,by rw[cT aa],h1⟩
   clear j C y o HU;go_wp2;exact Tj (v := Wc #[Z Y 0,J q0 k k0,Z Y F]) (by simp[results,results26,go_sem,r0,r1,r2]) O (cT aw)
section
structure Hu (w:V5) (C B:Nat) (p:Option Addr) (cap n:Nat) (step all:Int) (V:List Int) (R:List Bool) (G I:List Int):Prop where
 c0:w.cell? ⟨C,0,U⟩=S (Z Y step)
 c1:w.cell? ⟨C,1,U⟩=S (J p n cap)
 c2:w.cell? ⟨C,2,U⟩=S (Z Y all)
 fz:∀j,w.frozen? ⟨C,j,U⟩=Wg
 o:w.ownsRow B 104 4 (J p n cap) n (jk V R G I n)
 ne:(Value.slice p n cap).ownBlock≠S C
theorem Hu.lt{w:V5}{C B cap n:Nat}{p:Option Addr}{step all:Int}{V:List Int}{R:List Bool}{G I:List Int}(h:Hu w C B p cap n step all V R G I):C<N (E w):=Tu w _ h.c0
theorem Hu.below{w w':V5}{C B cap n:Nat}{p:Option Addr}{step all:Int}{V:List Int}{R:List Bool}{G I:List Int}(h:Hu w C B p cap n step all V R G I)(hb:V4 w w'):Hu w' C B p cap n step all V R G I:=⟨(hb.cell (p:=⟨C,0,U⟩) h.lt).trans h.c0,(hb.cell (p:=⟨C,1,U⟩) h.lt).trans h.c1,(hb.cell (p:=⟨C,2,U⟩) h.lt).trans h.c2,λj=>(hb.frozen (p:=⟨C,j,U⟩) h.lt).trans (h.fz j),de h.o hb,h.ne⟩
theorem Hu.S1{w:V5}{C B g cap n:Nat}{step all:Int}{V:List Int}{R:List Bool}{G I:List Int}(h:Hu w C B (S ⟨g,0,U⟩) cap n step all V R G I):oQ w C B g cap n step all V R G I:=⟨h.c0,h.c1,h.c2,h.fz,h.o,λe=>h.ne (by rw[e];rfl)⟩
theorem oQ.S3{w:V5}{C B g cap n:Nat}{step all:Int}{V:List Int}{R:List Bool}{G I:List Int}(h:oQ w C B g cap n step all V R G I):Hu w C B (S ⟨g,0,U⟩) cap n step all V R G I:=⟨h.c0,h.c1,h.c2,h.fz,h.o,λe=>by have b:S g=S C:=e;injection b with b;exact h.ne b⟩
theorem Hu.form{w:V5}{C B cap n:Nat}{p:Option Addr}{step all:Int}{V:List Int}{R:List Bool}{G I:List Int}(h:Hu w C B p cap n step all V R G I)(b:0<n):∃g,p=S ⟨g,0,U⟩/\B<=g/\g<N (E w):=Ji h.o O b
theorem Gy{V V':List Int}{R R':List Bool}{G G' I I':List Int}{n:Nat}(e:∀k,k<n->V.getD k 0=V'.getD k 0)(j:∀k,k<n->R.getD k Wg=R'.getD k Wg)(l:∀k,k<n->G.getD k 0=G'.getD k 0)(hi:∀k,k<n->I.getD k 0=I'.getD k 0):jk V R G I n=jk V' R' G' I' n:=by
 unfold jk;apply kJ;intro m b;rw[Va] at b;rw[e m b,j m b,l m b,hi m b]
structure S2 (W0 wr:V5) (C B:Nat) (p:Option Addr) (cap n:Nat) (P:Sp.Pg) (Es:List Sp.Ed) (c:Sp.Cfg) (step k:Nat) (a:Sp.Acc):Prop where
 st:Sp.lK P Es c step k=.ok a
 pc:Hu wr C B p cap n ((step:Int)+1) a.all (a.val++c.val.drop k) (a.fD++c.fD.drop k) ((List.range n).map (Sp.hZ a.dZ)) ((List.range n).map (Sp.iv P a.dZ))
 lJ:Below B W0 wr
theorem S2.first{l m:V5}{n:Nat}{P:Sp.Pg}{Es:List Sp.Ed}{c:Sp.Cfg}{step:Nat}{p:Option Addr}{cap:Nat}(A:Wn c.val=n)(hb:V4 l m)(u:m.ownsRow (N (E l)) 104 4 (J p n cap) n (jk c.val c.fD [] (List.replicate n (Sp.eT P.pq)) n)):S2 l (m.alloc (D #[Z Y ((step:Int)+1),J p n cap,Z Y (Sp.eT P.al)] 80)) (N (E m)) (N (E l)) p cap n P Es c step 0 ⟨[],[],Sp.eT P.al,[]⟩:=by
 have b:=Tk m (D #[Z Y ((step:Int)+1),J p n cap,Z Y (Sp.eT P.al)] 80);refine⟨O,⟨Ti _ _ 0 _ _ (0,0) b,Ti _ _ 1 _ _ (0,0) b,Ti _ _ 2 _ _ (0,0) b,λj=>by unfold World.frozen?;rw[b];simp,?_,λe=>by have:=(u.lt _ e).2;omega⟩,hb.alloc hb.size _⟩;have y:=u.alloc (D #[Z Y ((step:Int)+1),J p n cap,Z Y (Sp.eT P.al)] 80);have z:=Gy (n:=n) (V:=c.val) (R:=c.fD) (G:=[]) (I:=List.replicate n (Sp.eT P.pq)) (V':=[]++c.val.drop 0) (R':=[]++c.fD.drop 0) (G':=(List.range n).map (Sp.hZ [])) (I':=(List.range n).map (Sp.iv P [])) (λk _=>O) (λk _=>O) (λk r=>by rw[Sp.jP _ r];rfl) (λk r=>by rw[Sp.jP _ r,Ty,List.getElem?_replicate,Tg r];rfl);rw[z] at y;exact y
namespace Sp
theorem vR{α : Type}(A l:List α)(d : α){k:Nat}(e:Wn A=k)(b:k<Wn l):A++l.drop k=A++[l.getD k d]++l.drop (k+1):=by
 rw[TW b,Ty,Tw b];simp
theorem set_drop{α : Type}(A l:List α)(x : α){k:Nat}(b:Wn A=k)(j:k<Wn l):(A++l.drop k).set k x=A++[x]++l.drop (k+1):=by
 have h:=Hn A (l.drop k) x (by intro e;have:=congrArg List.length e;simp at this;omega);rw[b] at h;rw[h,List.tail_drop]
theorem Mj{P:Pg}{Es:List Ed}{c:Cfg}{i step:Nat}{t:Tn}(h:qJ P Es c i step=S t)(e:t.dZ≠[]):t.dZ.map Prod.fst=(iE Es i).map (·.cS):=by
 unfold qJ ie at h;split at h
 .cases h
 .split at h
  .cases h
  .split at h
   .cases h
   .rename_i j b;have l:t.dZ=j:=by
     unfold nQ at h;split at h
     .cases h
     .split at h
      .cases h
      .injection h with h;subst h;rfl
    rw[l] at e ⊢;split at b
    .injection b with b;exact absurd b.symm e
    .exact El b
end Sp
theorem S2.skip{b wr w':V5}{C B:Nat}{p:Option Addr}{cap n:Nat}{P:Sp.Pg}{Es:List Sp.Ed}{c:Sp.Cfg}{step k:Nat}{a:Sp.Acc}(h:S2 b wr C B p cap n P Es c step k a)(e:Sp.BW n k a)(j:Sp.eY n c)(l:k<n)(r:Sp.mh c k step=Wg)(hb:V4 wr w')(u:B<=N (E wr)):S2 b w' C B p cap n P Es c step (k+1) ⟨a.val++[c.val.getD k 0],a.fD++[c.fD.getD k Wg],a.all,a.dZ⟩:=by
 refine⟨Sp.KN h.st r,?_,h.lJ.trans (hb.mono u)⟩;have m:=h.pc.below hb;rw[Sp.vR a.val c.val 0 e.lv (by rw[j.lv];exact l),Sp.vR a.fD c.fD Wg e.lr (by rw[j.lr];exact l)] at m;exact m
theorem S2.qJ{e w':V5}{C B g:Nat}{cap n:Nat}{P:Sp.Pg}{Es:List Sp.Ed}{c:Sp.Cfg}{step k:Nat}{a:Sp.Acc}{t:Sp.Tn}(b:Sp.lK P Es c step k=.ok a)(j:Sp.BW n k a)(l:Sp.eY n c)(m:k<n)(u:Sp.mh c k step=We)(ht:Sp.qJ P Es c k step=S t)(h:oQ w' C B g cap n ((step:Int)+1) (Sp.jq P.al a.all t.lE) ((a.val++c.val.drop k).set k t.value) ((a.fD++c.fD.drop k).set k t.gx) ((List.range n).map (Sp.hZ (a.dZ++t.dZ))) ((List.range n).map (Sp.iv P (a.dZ++t.dZ))))(hb:Below B e w'):S2 e w' C B (S ⟨g,0,U⟩) cap n P Es c step (k+1) ⟨a.val++[t.value],a.fD++[t.gx],Sp.jq P.al a.all t.lE,a.dZ++t.dZ⟩:=by
 refine⟨Sp.Ic b u ht,?_,hb⟩;have r:=h.S3;rw[Sp.set_drop a.val c.val t.value j.lv (by rw[l.lv];exact m),Sp.set_drop a.fD c.fD t.gx j.lr (by rw[l.lr];exact m)] at r;exact r
def I7(o:Except Nat Sp.Acc)(P:Sp.Pg)(n:Nat)(step:Nat)(w:V5)(e:Ending)(w':V5):Prop:=V4 w w'/\match o with
  |.ok a=>∃sl,e=Wd (Wb #[Wc #[Z Y ((step:Int)+1),sl,Z Y a.all],Z Y 0,Wa We])/\w'.ownsRow (N (E w)) 104 4 sl n (jk (Sp.fi P n a).val (Sp.fi P n a).fD (Sp.fi P n a).iH (Sp.fi P n a).jf n)
  |.error i=>e=Wd (Wb #[Wc #[Z Y 0,J U 0 0,Z Y 0],Z Y i,Wa Wg])
theorem GU{P:Program}{c:Code}{Q:Exit->Act->V5->Prop}{a:Act}{w:V5}(R:V6->V6->V5->Prop)(h:∃A:V6->V6->Act,c.wp P (sX λx j b=>x=.normal/\∃u1 u2,j=A u1 u2/\R u1 u2 b) a w/\∀u1 u2 b,R u1 u2 b->Q .normal (A u1 u2) b):c.wp P Q a w:=by
 obtain⟨A,l,m⟩:=h;refine Code.wp_mono (λe a w h=>?_) l;obtain⟨rfl,u1,u2,rfl,r⟩:=ln _ _ _ h;exact m _ _ _ r
end
theorem fQ{W:V5}{b B:Nat}{pf:Option Addr}{n kf:Nat}{pe:Option Addr}{ke cZ:Nat}{t:TypeId}(h:W.heap[b]?=S (D (dY B pf n kf pe ke cZ) t (0,0))):W.cell? ⟨b,0,U⟩=S (V9 (S ⟨B,0,U⟩))/\W.cell? ⟨b,1,U⟩=S (J pf n kf)/\W.cell? ⟨b,2,U⟩=S (J pe n ke)/\W.cell? ⟨b,3,U⟩=S (Z Y cZ):=by
 unfold dY at h;exact⟨by simp[Wj,h],by simp[Wj,h],by simp[Wj,h],by simp[Wj,h]⟩
theorem dR{W:V5}{K:Nat}{a b c:V6}{t:TypeId}(h:W.heap[K]?=S (D #[a,b,c] t (0,0))):W.cell? ⟨K,0,U⟩=S a/\W.cell? ⟨K,1,U⟩=S b/\W.cell? ⟨K,2,U⟩=S c/\∀j,W.frozen? ⟨K,j,U⟩=Wg:=⟨by simp[Wj,h],by simp[Wj,h],by simp[Wj,h],λj=>by simp[World.frozen?,h]⟩
theorem Ks(B:Nat)(pf:Option Addr)(n kf:Nat)(pe:Option Addr)(ke cZ:Nat)(P:Sp.Pg)(Es:List Sp.Ed)(p:Option Addr)(cap step:Nat)(c:Sp.Cfg)(z f:Addr)(w:V5)(hp:jH w B P)(aX:j6 w z f)(he:Ht w pe n Es)(hv:kA w p c n)(aY:Sp.eY n c)(hj:Sp.iM P Es n)(hs:step<=100000):V7 prog 42 #[Wc (dY B pf n kf pe ke cZ),gz step p n cap c.all] w (I7 (Sp.lK P Es c step n) P n step w):=by
 generalize hO:I7 (Sp.lK P Es c step n) P n step w=b;replace hO:=cU hO;have HP:=cU hp;have HR:=cU aX;have HE:=cU he;have HV:=cU hv;have s:=cU aY;have HJ:=cU hj;have ax:=hj.FW;have aZ:=cU (jj w (dY B pf n kf pe ke cZ) #[Z Y (step:Int),J p n cap,Z Y c.all] #[Z Y 0,J U 0 0,Z Y 0] 75 80 80);have bG:IntKind.i64.wrap ((step:Int)+1)=(step:Int)+1:=by rw[TJ];omega
 have HU:=cU (λW (hb:V4 w W)=>EO B pf n kf pe ke cZ ((step:Int)+1) p n cap P c W (hp.below hb) (hv.below hb) ax);clear hp aX he hv aY hj;unfold gz;unfold dY at *;go_enter func42,ntmps42;go_wp2_with fail;generalize hW:Wl (Wl _ _) _=M;obtain⟨a1,a6,a7,aj,b3⟩:=cT aZ M hW.symm;have a8:=cU a1;have aJ:=cU a6;have ba:=cU a7;clear hW aZ a1 a6 a7;refine(cT HU M aj).mono ?_;rintro e w1 ⟨aD,sl,rfl,aK⟩;obtain⟨pn,kn,Q,_⟩:=dm aK;subst Q;have aL:Hid (S2 M _ (N (E w1)) (N (E M)) pn kn n P Es c step 0 _):=S2.first (cT s).lv aD aK
 obtain⟨na,bH⟩:∃na,Hid (Sp.eT P.al=na):=⟨_,rfl⟩
 rw[cT bH] at aL ⊢;have aM:N (E M)<=N (E w1):=aD.size;obtain⟨u0,u1,u2,u3⟩:=dR ((aD.block (N (E w)+1) (by omega)).trans (cT aJ));have bc:N (E w)+1<N (E w1):=by omega
 clear aD aK u3 HU bG;go_wp2_with fail
 go_loopw [23] (λi wr=>∃(k:Nat) (a:Sp.Acc),k<=n/\i=Z Y k/\Hid (S2 M wr (N (E w1)) (N (E M)) pn kn n P Es c step k a)) (λi _=>n-(intOf i).toNat)
 case atStart=>exact⟨0,_,Tp _,rfl,aL⟩
 case round =>
  clear aL u0 u1 u2 bc;obtain⟨C,hC⟩:∃C,N (E w1)=C:=⟨_,rfl⟩
  rw[hC] at hrel aM ⊢;obtain⟨k,a,hk,rfl,HS⟩:=hrel;have ak:=(cT HS).lJ;have b4:=ak.size;have bd:V4 w wr:=aj.trans (ak.mono (by omega));have ae:Hid (Sp.BW n k a):=Sp.sT (cT HJ) lQ (cT s) hs k hk a (cT HS).st;by_cases an:k<n
  .have bg:(k:Int)<(n:Int):=by omega
   have g0:(0:Int)<=(k:Int):=TS _;obtain⟨gp,rfl,b5,d0,d1,d2,d3⟩:=((cT HV).below bd) k an;obtain⟨u0,u1,u2,_⟩:=dR ((ak.block (N (E w)+1) (by omega)).trans (cT aJ));have bc:N (E w)+1<N (E wr):=by omega
   have ar:=cU (λW=>FE step (S ⟨gp,0,U⟩) n cap c.all (c.val.getD k 0) (c.iH.getD k 0) (c.jf.getD k 0) (c.fD.getD k Wg) W (by omega));have bI:Hid ((step == 0 || (!(c.fD.getD k Wg) || decide (0<c.iH.getD k 0)))=Sp.mh c k step):=rfl;rw[cT bI] at ar;obtain⟨aw,HW⟩:∃aw,Hid (Sp.mh c k step=aw):=⟨_,rfl⟩
   rw[cT HW] at ar;unfold gz at ar;obtain⟨r,aE⟩:∃r,Hid (Sp.AU c (Sp.iE Es k).length k step=r):=⟨_,rfl⟩
   have bh:Hid (mZ (r.iW 0)=Wc #[Z Y (c.val.getD k 0),Z Y (c.jf.getD k 0),Z Y (c.iH.getD k 0),Z Y (step:Int),Z Y (k:Int),Z Y ((Sp.iE Es k).length:Int),Z Y c.all,Z Y 0,Z Y 0]):=by show _=_;rw[<-cT aE];rfl
   have bJ:Hid (Sp.qJ P Es c k step=Sp.ie P r (Sp.iE Es k)):=by show _=_;rw[<-cT aE];rfl
   have bj:Hid (Sp.nE r/\r.xB=r.value):=by
    have h:=Sp.E0 (cT s) (deg:=(Sp.iE Es k).length) (i:=k) (step:=step) an (by have:=Sp.oN Es k;have:=(cT HJ).es;omega) ax hs;rw[cT aE] at h;refine⟨h,?_⟩;rw[<-cT aE];rfl
   have bk:Hid (aw=Wg->∀F,V4 wr F->S2 M F C (N (E M)) pn kn n P Es c step (k+1) ⟨a.val++[c.val.getD k 0],a.fD++[c.fD.getD k Wg],a.all,a.dZ⟩):=λha F hb=>(cT HS).skip (cT ae) (cT s) an (by rw[cT HW];exact ha) hb ak.size
   generalize c.val.getD k 0=x0 at *;generalize c.fD.getD k Wg=x1 at *;generalize c.iH.getD k 0=x2 at *;generalize c.jf.getD k 0=x3 at *;go_wp2_with fail;generalize aN:Wl _ _=V1;have aF:V4 wr V1:=by rw[<-aN];exact V3.alloc V2 _
   have aq:V1.heap[N (E wr)]?=S (D #[Z Y x0,Wa x1,Z Y x2,Z Y x3] 104 (0,0)):=by rw[<-aN];exact Tk wr _
   clear aN d0 d1 d2 d3 u0 u1 u2;refine(cT ar V1).mono ?_;rintro e A ⟨rfl,aG⟩;have aa:V4 wr A:=aF.trans (aG.mono aF.size);have ab:=(aG.block (N (E wr)) (Ts.1 aq).1).trans aq;cases aw with
   |false =>
    have ay:=cU (cT bk O A aa);clear ar aF aq aG aa ab;go_wp2;go_roundw
    case rel=>exact⟨k+1,_,by omega,by go_num,ay⟩
    case measure=>simp[intOf];omega
   |true =>
    have af:V4 M A:=ak.trans (aa.mono ak.size);have b6:=aa.size;have b7:=(Ts.1 ab).1;have v0:A.cell? ⟨N (E wr),0,U⟩=S (Z Y x0):=by simp[Wj,ab]
    have v2:A.cell? ⟨N (E wr),2,U⟩=S (Z Y x2):=by simp[Wj,ab]
    have v3:A.cell? ⟨N (E wr),3,U⟩=S (Z Y x3):=by simp[Wj,ab]
    obtain⟨u0,u1,u2,_⟩:=dR ((af.block (N (E w)+1) (by omega)).trans (cT aJ));obtain⟨j0,j1,j2,j3⟩:=fQ (B:=B) (pf:=pf) (n:=n) (kf:=kf) (pe:=pe) (ke:=ke) (cZ:=cZ) ((af.block (N (E w)) (by omega)).trans (cT a8));have bn:V4 w A:=aj.trans (af.mono (by omega));obtain⟨y,au,av,bo,hD,dc,bp⟩:=((cT HE).below bn) k an;have bq:=cU bp;rw[bo] at j2;have ay:Hid (Hu A C (N (E M)) pn kn n ((step:Int)+1) a.all (a.val++c.val.drop k) (a.fD++c.fD.drop k) ((List.range n).map (Sp.hZ a.dZ)) ((List.range n).map (Sp.iv P a.dZ))):=(cT HS).pc.below aa;have aO:(Sp.iE Es k).length<=256:=by have:=Sp.oN Es k;have:=(cT HJ).es;omega
    obtain⟨dl,aH⟩:∃dl,Hid ((Sp.iE Es k).length=dl):=⟨_,rfl⟩
    rw[cT aH] at dc bh aO;have b2:C<N (E A):=(cT ay).lt;clear ar aF aq aG aa ab bp bo j1 j3 u1 bk;go_upto_region 6 with fail;apply vk (λF=>F=(A.alloc (D #[Z Y x0,Z Y x3,Z Y x2,Z Y (step:Int),Z Y (k:Int),Z Y (dl:Int),Z Y c.all,Z Y 0,Z Y 0] 165)).drew);apply Exists.intro;apply And.intro
    case left =>
     go_region_held3 (λF=>F.cell? ⟨N (E wr),0,U⟩=S (Z Y x0)/\F.cell? ⟨N (E wr),2,U⟩=S (Z Y x2)/\F.cell? ⟨N (E wr),3,U⟩=S (Z Y x3)/\F.cell? ⟨N (E w)+1,0,U⟩=S (Z Y (step:Int))/\F.cell? ⟨N (E w)+1,2,U⟩=S (Z Y c.all)/\F.cell? ⟨N (E w),2,U⟩=S (J (S ⟨y,0,U⟩) n ke)/\F.cell? ⟨y,k,U⟩=S (J au dl av))
      (first|(go_keep;done))
      (first|fail)
     exact⟨O,O,O⟩
    case right =>
    rintro w3 aP;have ag:V4 A w3:=by rw[aP];exact(V3.alloc V2 _).drew
    have V:w3.heap[N (E A)]?=S (D #[Z Y x0,Z Y x3,Z Y x2,Z Y (step:Int),Z Y (k:Int),Z Y (dl:Int),Z Y c.all,Z Y 0,Z Y 0] 165 (0,0)):=by rw[aP];exact Tk A _
    have Q:=(Ts.1 V).1;have s0:w3.cell? ⟨N (E A),0,U⟩=S (Z Y x0):=by simp[Wj,V]
    have s1:w3.cell? ⟨N (E A),1,U⟩=S (Z Y x3):=by simp[Wj,V]
    have s2:w3.cell? ⟨N (E A),2,U⟩=S (Z Y x2):=by simp[Wj,V]
    have s3:w3.cell? ⟨N (E A),3,U⟩=S (Z Y (step:Int)):=by simp[Wj,V]
    have s4:w3.cell? ⟨N (E A),4,U⟩=S (Z Y (k:Int)):=by simp[Wj,V]
    have s5:w3.cell? ⟨N (E A),5,U⟩=S (Z Y (dl:Int)):=by simp[Wj,V]
    have s6:w3.cell? ⟨N (E A),6,U⟩=S (Z Y c.all):=by simp[Wj,V]
    have s7:w3.cell? ⟨N (E A),7,U⟩=S (Z Y 0):=by simp[Wj,V]
    have s8:w3.cell? ⟨N (E A),8,U⟩=S (Z Y 0):=by simp[Wj,V]
    have ah:V4 M w3:=af.trans (ag.mono af.size);have aI:V4 w w3:=aj.trans (ah.mono (by omega));have ca:=ag.size;have aQ:=cU ((cT ay).below ag);have aR:=(ag.cell (p:=⟨N (E w),0,U⟩) (by show (N (E w))<_;omega)).trans j0;have aS:=(ag.cell (p:=⟨N (E w),2,U⟩) (by show (N (E w))<_;omega)).trans j2;have aT:=(ag.cell (p:=⟨y,k,U⟩) hD).trans dc;have br:=cU ((cT bq).below ag);have bK:y<N (E w3):=by omega
    have bs:N (E w)<N (E w3):=by omega
    have bu:Hid (∀W,V4 w3 W->W.cell? ⟨N (E w),0,U⟩=S (V9 (S ⟨B,0,U⟩))/\W.cell? ⟨N (E w),2,U⟩=S (J (S ⟨y,0,U⟩) n ke)/\W.cell? ⟨y,k,U⟩=S (J au dl av)/\W.cell? ⟨N (E A),0,U⟩=S (Z Y x0)/\W.cell? ⟨N (E A),1,U⟩=S (Z Y x3)/\W.cell? ⟨N (E A),2,U⟩=S (Z Y x2)/\W.cell? ⟨N (E A),3,U⟩=S (Z Y (step:Int))/\W.cell? ⟨N (E A),4,U⟩=S (Z Y (k:Int))/\W.cell? ⟨N (E A),5,U⟩=S (Z Y (dl:Int))/\W.cell? ⟨N (E A),6,U⟩=S (Z Y c.all)/\W.cell? ⟨N (E A),7,U⟩=S (Z Y 0)/\W.cell? ⟨N (E A),8,U⟩=S (Z Y 0)):=λW hW=>⟨(hW.cell (p:=⟨N (E w),0,U⟩) bs).trans aR,(hW.cell (p:=⟨N (E w),2,U⟩) bs).trans aS,(hW.cell (p:=⟨y,k,U⟩) bK).trans aT,(hW.cell (p:=⟨N (E A),0,U⟩) Q).trans s0,(hW.cell (p:=⟨N (E A),1,U⟩) Q).trans s1,(hW.cell (p:=⟨N (E A),2,U⟩) Q).trans s2,(hW.cell (p:=⟨N (E A),3,U⟩) Q).trans s3,(hW.cell (p:=⟨N (E A),4,U⟩) Q).trans s4,(hW.cell (p:=⟨N (E A),5,U⟩) Q).trans s5,(hW.cell (p:=⟨N (E A),6,U⟩) Q).trans s6,(hW.cell (p:=⟨N (E A),7,U⟩) Q).trans s7,(hW.cell (p:=⟨N (E A),8,U⟩) Q).trans s8⟩
    have aU:Hid (∀W,V4 w3 W->V7 prog 73 #[V9 (S ⟨B,0,U⟩),Wc #[Z Y x0,Z Y x3,Z Y x2,Z Y (step:Int),Z Y (k:Int),Z Y (dl:Int),Z Y c.all,Z Y 0,Z Y 0],J au dl av] W (EA (Sp.qJ P Es c k step) W)):=by
     show ∀W,_
     intro W hW;have bw:=aI.trans (hW.mono aI.size);have h:=J3 B P r 0 (Sp.iE Es k) au av z f W ((cT HP).below bw) ((cT HR).below bw) (cT bj).1 (cT bj).2 ((cT br).below hW) (λx hx=>((cT HJ).ed x (UU.1 hx).1).2.2) (by have:=cT aH;omega);rw[cT bh,cT aH,<-cT bJ] at h;exact h
    have cc:Hid (∀(args:Array V6) (w:V5),(callFunc 73 args).run prog w=.ok (.enter 73 args) w):=da func73 (by kernel_rfl) (by kernel_rfl);obtain⟨o,az⟩:∃o,Hid (Sp.qJ P Es c k step=o):=⟨_,rfl⟩
    rw[cT az] at aU;clear aP v0 v2 v3 u0 u2 j0 j2 dc ay V ag bq;go_upto_region 7 with fail;cases o with
    |none =>
     apply uM (λu F=>Hid (V4 w3 F));apply Exists.intro;apply And.intro
     case left =>
      go_region_held3 (λF=>F.cell? ⟨N (E w),0,U⟩=S (V9 (S ⟨B,0,U⟩))/\F.cell? ⟨N (E w),2,U⟩=S (J (S ⟨y,0,U⟩) n ke)/\F.cell? ⟨y,k,U⟩=S (J au dl av)/\F.cell? ⟨N (E A),0,U⟩=S (Z Y x0)/\F.cell? ⟨N (E A),1,U⟩=S (Z Y x3)/\F.cell? ⟨N (E A),2,U⟩=S (Z Y x2)/\F.cell? ⟨N (E A),3,U⟩=S (Z Y (step:Int))/\F.cell? ⟨N (E A),4,U⟩=S (Z Y (k:Int))/\F.cell? ⟨N (E A),5,U⟩=S (Z Y (dl:Int))/\F.cell? ⟨N (E A),6,U⟩=S (Z Y c.all)/\F.cell? ⟨N (E A),7,U⟩=S (Z Y 0)/\F.cell? ⟨N (E A),8,U⟩=S (Z Y 0))
       (first|(exact cT bu _ (by first|assumption|exact V3.drew|exact V3.drew.alloc V2 _|exact ad.alloc ad.size _|exact(((ad.setCell (p:=⟨N (E w3),0,U⟩) V2 _).setCell (p:=⟨N (E w3),1,U⟩) V2 _).setCell (p:=⟨N (E w3),2,U⟩) V2 _).setCell (p:=⟨N (E w3),3,U⟩) V2 _))|(go_keep;done))
       (first|(go_at_call 73;refine(cT aU _ (by first|exact Th _ _|exact V3.drew|exact V3.drew.alloc V2 _|exact V3.alloc V2 _)).mono ?_;rintro e L ⟨I,rfl⟩;have ad:V4 w3 L:=(by first|exact V3.drew.trans (I.mono V2)|exact(V3.drew.alloc V2 _).trans (I.mono (by simp))|exact I);have ao:=cU ad;try (have G:L.heap[N (E w3)]?=S (D #[Z Y 0,J U 0 0,Wa Wg,Z Y 0] 167 (0,0)):=(I.block _ (by simp)).trans (Tk w3.drew _);have bL:L.cell? ⟨N (E w3),0,U⟩=S (Z Y 0):=(by simp[Wj,G]);have bM:L.frozen? ⟨N (E w3),0,U⟩=Wg:=(by simp[World.frozen?,G]);have bN:L.cell? ⟨N (E w3),1,U⟩=S (J U 0 0):=(by simp[Wj,G]);have bO:L.frozen? ⟨N (E w3),1,U⟩=Wg:=(by simp[World.frozen?,G]);have bP:L.cell? ⟨N (E w3),2,U⟩=S (Wa Wg):=(by simp[Wj,G]);have bQ:L.frozen? ⟨N (E w3),2,U⟩=Wg:=(by simp[World.frozen?,G]);have bR:L.cell? ⟨N (E w3),3,U⟩=S (Z Y 0):=(by simp[Wj,G]);have bS:L.frozen? ⟨N (E w3),3,U⟩=Wg:=(by simp[World.frozen?,G]);have bx:=cU G;clear G);clear I))
      all_goals
       first
        | (have h1:=(cT ao).alloc (cT ao).size (D #[Z Y 0,J U 0 0,Wa Wg,Z Y 0] 167)
           generalize Value.pointer (S ⟨N (E L),0,U⟩)=u
           first
            |exact⟨rfl,u,rfl,h1⟩
            |exact⟨rfl,u,rfl,h1.drew⟩)
        | (have h1:=((((cT ao).setCell (p:=⟨N (E w3),0,U⟩) V2 (Z Y 0)).setCell (p:=⟨N (E w3),1,U⟩) V2 (J U 0 0)).setCell (p:=⟨N (E w3),2,U⟩) V2 (Wa Wg)).setCell (p:=⟨N (E w3),3,U⟩) V2 (Z Y 0)
           generalize Value.pointer (S ⟨N (E w3),0,U⟩)=u
           first
            |exact⟨rfl,u,rfl,h1⟩
            |exact⟨rfl,u,rfl,h1.drew⟩)
        |trace_state
     case right =>
     rintro u w4 aA;have bT:Hid (Sp.lK P Es c step n=.error k):=by
      have h:=Sp.Nk (n-(k+1)) (k+1) (Sp.Nr (cT HS).st (cT HW) (cT az));rw[show k+1+(n-(k+1))=n by omega] at h;exact h
     have X:V4 M w4:=ah.trans ((cT aA).mono ah.size);have K:w4.heap[N (E w)+1+1]?=_:=(X.block (N (E w)+1+1) (by omega)).trans (cT ba);have r0:w4.cell? ⟨N (E w)+1+1,0,U⟩=S (Z Y 0):=by simp[Wj,K]
     have bU:w4.frozen? ⟨N (E w)+1+1,0,U⟩=Wg:=by simp[World.frozen?,K]
     have r1:w4.cell? ⟨N (E w)+1+1,1,U⟩=S (J U 0 0):=by simp[Wj,K]
     have bV:w4.frozen? ⟨N (E w)+1+1,1,U⟩=Wg:=by simp[World.frozen?,K]
     have r2:w4.cell? ⟨N (E w)+1+1,2,U⟩=S (Z Y 0):=by simp[Wj,K]
     have bW:w4.frozen? ⟨N (E w)+1+1,2,U⟩=Wg:=by simp[World.frozen?,K]
     have aV:Hid (b (Wd (Wb #[Wc #[Z Y 0,J U 0 0,Z Y 0],Z Y k,Wa Wg])) (fM w4 (N (E w)+1+1) (Z Y 0) (J U 0 0) (Z Y 0))):=by
      show b _ _
      rw[<-cT hO,cT bT];exact⟨mO (aj.trans (X.mono (by omega))) (by omega) _ _ _,O⟩
     clear s0 s1 s2 s3 s4 s5 s6 s7 s8 aR aS aT K;go_wp2;exact Tj (v := Wb #[Wc #[Z Y 0,J U 0 0,Z Y 0],Z Y k,Wa Wg]) (by simp[results,results42,go_sem,r0,r1,r2]) O (cT aV)
    |some t =>
     have bX:Hid (Sp.Qq n t):=Sp.Ej (cT HJ) lQ (cT s) an hs (cT az);obtain⟨m,HM⟩:∃m,Hid (Wn t.dZ=m):=⟨_,rfl⟩
     apply GU (λv u F=>∃T,u=V9 (S ⟨T,0,U⟩)/\Hid (F.heap[T]?=S (D #[Z Y t.value,v,Wa t.gx,Z Y t.lE] 167 (0,0)))/\Hid (F.ownsRow (N (E w3)) 2 1 v (Wn t.dZ) (t.dZ.map λm=>Z Y m.2))/\Hid (V4 w3 F));apply Exists.intro;apply And.intro
     case left =>
      go_region_held3 (λF=>F.cell? ⟨N (E w),0,U⟩=S (V9 (S ⟨B,0,U⟩))/\F.cell? ⟨N (E w),2,U⟩=S (J (S ⟨y,0,U⟩) n ke)/\F.cell? ⟨y,k,U⟩=S (J au dl av)/\F.cell? ⟨N (E A),0,U⟩=S (Z Y x0)/\F.cell? ⟨N (E A),1,U⟩=S (Z Y x3)/\F.cell? ⟨N (E A),2,U⟩=S (Z Y x2)/\F.cell? ⟨N (E A),3,U⟩=S (Z Y (step:Int))/\F.cell? ⟨N (E A),4,U⟩=S (Z Y (k:Int))/\F.cell? ⟨N (E A),5,U⟩=S (Z Y (dl:Int))/\F.cell? ⟨N (E A),6,U⟩=S (Z Y c.all)/\F.cell? ⟨N (E A),7,U⟩=S (Z Y 0)/\F.cell? ⟨N (E A),8,U⟩=S (Z Y 0))
       (first|(exact cT bu _ (by first|assumption|exact V3.drew|exact V3.drew.alloc V2 _|exact ad.alloc ad.size _|exact(((ad.setCell (p:=⟨N (E w3),0,U⟩) V2 _).setCell (p:=⟨N (E w3),1,U⟩) V2 _).setCell (p:=⟨N (E w3),2,U⟩) V2 _).setCell (p:=⟨N (E w3),3,U⟩) V2 _))|(go_keep;done))
       (first|(go_at_call 73;refine(cT aU _ (by first|exact Th _ _|exact V3.drew|exact V3.drew.alloc V2 _|exact V3.alloc V2 _)).mono ?_;rintro e L ⟨I,v,rfl,aW⟩;obtain⟨pm,km,aB,_⟩:=dm aW;rw[cT HM] at aB;subst aB;have ad:V4 w3 L:=(by first|exact V3.drew.trans (I.mono V2)|exact(V3.drew.alloc V2 _).trans (I.mono (by simp))|exact I);have ao:=cU ad;have ai:=cU aW;try (have G:L.heap[N (E w3)]?=S (D #[Z Y 0,J U 0 0,Wa Wg,Z Y 0] 167 (0,0)):=(I.block _ (by simp)).trans (Tk w3.drew _);have bL:L.cell? ⟨N (E w3),0,U⟩=S (Z Y 0):=(by simp[Wj,G]);have bM:L.frozen? ⟨N (E w3),0,U⟩=Wg:=(by simp[World.frozen?,G]);have bN:L.cell? ⟨N (E w3),1,U⟩=S (J U 0 0):=(by simp[Wj,G]);have bO:L.frozen? ⟨N (E w3),1,U⟩=Wg:=(by simp[World.frozen?,G]);have bP:L.cell? ⟨N (E w3),2,U⟩=S (Wa Wg):=(by simp[Wj,G]);have bQ:L.frozen? ⟨N (E w3),2,U⟩=Wg:=(by simp[World.frozen?,G]);have bR:L.cell? ⟨N (E w3),3,U⟩=S (Z Y 0):=(by simp[Wj,G]);have bS:L.frozen? ⟨N (E w3),3,U⟩=Wg:=(by simp[World.frozen?,G]);have bx:=cU G;clear G);clear I aW))
      all_goals
       first
        | (have h1:=(cT ao).alloc (cT ao).size (D #[Z Y t.value,J pm m km,Wa t.gx,Z Y t.lE] 167)
           have h2:=Tk L (D #[Z Y t.value,J pm m km,Wa t.gx,Z Y t.lE] 167);have h3:=(fB (cT ai) (B:=N (E w3)) (by simp)).alloc (D #[Z Y t.value,J pm m km,Wa t.gx,Z Y t.lE] 167);clear ai;generalize hu:Value.pointer (S ⟨N (E L),0,U⟩)=u;generalize Value.slice pm m km=v at *
           first
            |exact⟨rfl,v,u,rfl,N (E L),hu.symm,h2,h3,h1⟩
            |exact⟨rfl,v,u,rfl,N (E L),hu.symm,h2,h3.drew,h1.drew⟩)
        | (have h1:=((((cT ao).setCell (p:=⟨N (E w3),0,U⟩) V2 (Z Y t.value)).setCell (p:=⟨N (E w3),1,U⟩) V2 (J pm m km)).setCell (p:=⟨N (E w3),2,U⟩) V2 (Wa t.gx)).setCell (p:=⟨N (E w3),3,U⟩) V2 (Z Y t.lE)
           have h2:=xA (cT bx) (Z Y t.value) (J pm m km) (Wa t.gx) (Z Y t.lE);have o':∀{W:V5} (j:Nat) (q:V6),W.ownsRow (N (E w3)+1) 2 1 (J pm m km) (Wn t.dZ) (t.dZ.map λm=>Z Y m.2)->(W.setCell ⟨N (E w3),j,U⟩ q).ownsRow (N (E w3)+1) 2 1 (J pm m km) (Wn t.dZ) (t.dZ.map λm=>Z Y m.2):=λj q h=>TA h (a:=⟨N (E w3),j,U⟩) (Nat.lt_succ_self _) q
           have h3:=fB (o' 3 (Z Y t.lE) (o' 2 (Wa t.gx) (o' 1 (J pm m km) (o' 0 (Z Y t.value) (fB (cT ai) (by simp)))))) (B:=N (E w3)) (Uh _);clear ai o';unfold j9 at h2;generalize hu:Value.pointer (S ⟨N (E w3),0,U⟩)=u;generalize Value.slice pm m km=v at *
           first
            |exact⟨rfl,v,u,rfl,N (E w3),hu.symm,h2,h3,h1⟩
            |exact⟨rfl,v,u,rfl,N (E w3),hu.symm,h2,h3.drew,h1.drew⟩)
        |trace_state
     case right =>
     rintro v u w4 ⟨T,rfl,aC,ai,aA⟩;obtain⟨pm,km,aB,_⟩:=dm (cT ai);rw[cT HM] at aB;subst aB;have X:V4 M w4:=ah.trans ((cT aA).mono ah.size);have cd:=(cT aA).size;obtain⟨g,rfl,bY,bZ⟩:=(cT aQ).form (by omega);have bA:=cU ((cT aQ).below (cT aA)).S1;have b0:=(cT aQ).lt;have bB:Hid (V7 prog 74 #[Wc #[V9 (S ⟨B,0,U⟩),J pf n kf,J pe n ke,Z Y cZ],Wc #[Z Y t.value,J pm m km,Wa t.gx,Z Y t.lE],Z Y k,V9 (S ⟨C,0,U⟩)] w4 (CD P C (N (E M)) g kn n ((step:Int)+1) a.all (a.val++c.val.drop k) (a.fD++c.fD.drop k) a.dZ t k w4)):=PF B pf n kf pe ke cZ P Es t k (J pm m km) C (N (E M)) g kn (N (E w3)) ((step:Int)+1) a.all (a.val++c.val.drop k) (a.fD++c.fD.drop k) a.dZ M w4 ((cT HP).below aj) ((cT HE).below aj) X an ax (cT bA) aM V2 (by rw[TT,(cT ae).lv,Us,(cT s).lv];omega) (by rw[TT,(cT ae).lr,Us,(cT s).lr];omega) (by have h1:=(cT ae).l;have h2:k*256<=64*256:=VH _ (by omega);omega) (cT ai) b0 bZ (Sp.Mj (cT az)) (cT bX) (by have:=cT aH;omega);obtain⟨i0,i1,i2,i3⟩:=fQ (B:=B) (pf:=pf) (n:=n) (kf:=kf) (pe:=pe) (ke:=ke) (cZ:=cZ) ((X.block (N (E w)) (by omega)).trans (cT a8));have t0:w4.cell? ⟨T,0,U⟩=S (Z Y t.value):=by simp[Wj,cT aC]
     have t1:w4.cell? ⟨T,1,U⟩=S (J pm m km):=by simp[Wj,cT aC]
     have t2:w4.cell? ⟨T,2,U⟩=S (Wa t.gx):=by simp[Wj,cT aC]
     have t3:w4.cell? ⟨T,3,U⟩=S (Z Y t.lE):=by simp[Wj,cT aC]
     clear s0 s1 s2 s3 s4 s5 s6 s7 s8 aR aS aT aC ai bA;go_wp2_with fail;refine(cT bB).mono ?_;rintro e w5 ⟨rfl,bC,bD⟩;have b1:Hid (S2 M w5 C (N (E M)) (S ⟨g,0,U⟩) kn n P Es c step (k+1) _):=S2.qJ (cT HS).st (cT ae) (cT s) an (cT HW) (cT az) bD (X.trans (bC.below aM bY X.size));clear bC bD bB i0 i1 i2 i3 t0 t1 t2 t3;go_wp2;go_roundw
     case rel=>exact⟨k+1,_,by omega,by go_num,b1⟩
     case measure=>simp[intOf];omega
  .have bg:¬(k:Int)<(n:Int):=by omega
   have bE:k=n:=by omega
   have x0:=(cT HS).pc.c0;have x1:=(cT HS).pc.c1;have x2:=(cT HS).pc.c2;have K:wr.heap[N (E w)+1+1]?=_:=(ak.block (N (E w)+1+1) (by omega)).trans (cT ba);have r0:wr.cell? ⟨N (E w)+1+1,0,U⟩=S (Z Y 0):=by simp[Wj,K]
   have bU:wr.frozen? ⟨N (E w)+1+1,0,U⟩=Wg:=by simp[World.frozen?,K]
   have r1:wr.cell? ⟨N (E w)+1+1,1,U⟩=S (J U 0 0):=by simp[Wj,K]
   have bV:wr.frozen? ⟨N (E w)+1+1,1,U⟩=Wg:=by simp[World.frozen?,K]
   have r2:wr.cell? ⟨N (E w)+1+1,2,U⟩=S (Z Y 0):=by simp[Wj,K]
   have bW:wr.frozen? ⟨N (E w)+1+1,2,U⟩=Wg:=by simp[World.frozen?,K]
   have aV:Hid (b (Wd (Wb #[Wc #[Z Y ((step:Int)+1),J pn n kn,Z Y a.all],Z Y 0,Wa We])) (fM wr (N (E w)+1+1) (Z Y ((step:Int)+1)) (J pn n kn) (Z Y a.all))):=by
    show b _ _
    have bF:=(cT HS).st;rw[bE] at bF;rw[<-cT hO,bF];refine⟨mO bd (by omega) _ _ _,_,O,?_⟩;have h1:=(cT HS).pc.o;rw[bE,UP (by rw[(cT s).lv];exact Te _),UP (by rw[(cT s).lr];exact Te _),UJ,UJ] at h1;exact fB (pG h1 (R:=N (E w)+1+1) (by omega) _ _ _) (by omega)
   clear K;go_wp2;exact Tj (v := Wb #[Wc #[Z Y ((step:Int)+1),J pn n kn,Z Y a.all],Z Y 0,Wa We]) (by simp[results,results42,go_sem,r0,r1,r2]) O (cT aV)
theorem SH(pn:Option Addr)(n kn:Nat)(pv:Option Addr)(kv:Nat)(pe:Option Addr)(ke:Nat)(Es:List Sp.Ed)(w:V5)(he:gh w pe Es)(hn:n<=64)(hm:Es.length<=256)(aa:∀x∈Es,x.dp<n):V7 prog 39 #[Wc #[J pn n kn,J pv n kv,J pe Es.length ke]] w (JL n Es w):=by
 obtain⟨t2,ar,au,av,aw⟩:=TN info_edge;obtain⟨t3,ax,ay,az,aA⟩:=TN info_edges;generalize hO:JL n Es w=b;replace hO:=cU hO;have HE:=cU he;have aB:=cU aa;obtain⟨m,HM⟩:∃m,Hid (Es.length=m):=⟨_,rfl⟩
 rw[cT HM] at hm;rw[cT HM];have Q:V4 w (w.alloc (D #[J pn n kn,J pv n kv,J pe m ke] 68)):=V3.alloc V2 _;have ab:=Tk w (D #[J pn n kn,J pv n kv,J pe m ke] 68);have R:=TK w (D #[J pn n kn,J pv n kv,J pe m ke] 68);clear he aa;go_enter func39,ntmps39;go_wp2_with (first|((refine wpList_make_full _ rfl (.tmp 8) (.tmp 8) 73 rfl (N (E w)+1) 66 t3 _ 1 underlying73 ax ay az Y Y _ _ n rfl rfl rfl rfl (by rw[aA];omega) (by unfold maxLen;omega) (by first|exact Te _|omega|exact Vk R.symm) ?_;intro F u G;have aC:F.cell? ⟨N (E w),2,U⟩=S (J pe m ke):=(G.cell_far ⟨N (E w),2,U⟩ (by simp) (by simp)).trans (Ti _ _ 2 _ _ (0,0) ab)))|go_in);rw[R] at u;have aD:V4 w F:=Q.grown G Q.size (λq hq=>by cases hq);have aN:N (E w)+1<=N (E F):=by have:=G.size;omega
 have ad:Hid (tj F (N (E w)+1) (N (E w)+1) n (λ_=>J U 0 0) (Es.take 0)):=by
  rw[List.take_zero];refine tj.new ?_;rw[Nat.mul_one] at u;rw[<-toList_madeCells_one];exact u
 clear u G aC Q ab R
 go_loopw [13] (λi wr=>∃(k:Nat) (f:Nat->V6),k<=m/\i=Z Y k/\Hid (tj wr (N (E w)+1) (N (E w)+1) n f (Es.take k))/\Below (N (E w)+1) F wr) (λi _=>m-(intOf i).toNat)
 case atStart=>exact⟨0,_,Tp _,rfl,ad,Th _ _⟩
 case round =>
  clear ad;obtain⟨k,f,hk,rfl,HV,hb⟩:=hrel;have ae:V4 w wr:=aD.trans (hb.mono (by omega));have aO:=hb.size;by_cases aE:k<m
  .have af:(k:Int)<(m:Int):=by omega
   have g0:(0:Int)<=(k:Int):=TS _;have T:k<Es.length:=by rw[cT HM];exact aE
   obtain⟨g,rfl,hg,d0,d1,d2⟩:=((cT HE).below ae) k T;obtain⟨x,hx⟩:∃x,Es[k]=x:=⟨_,rfl⟩
   have z:x.dp<n:=by rw[<-hx];exact cT aB _ (Uc T)
   rw[hx] at d0 d1 d2;have ag:Hid (Es.take (k+1)=Es.take k++[x]):=by show _=_;rw[Uw T,hx]
   clear hx;have aP:(x.dp:Int)<(n:Int):=by omega
   have aQ:(0:Int)<=(x.dp:Int):=TS _;have aF:(Sp.iE (Es.take k) x.dp).length<=256:=by have:=Sp.oN (Es.take k) x.dp;rw[Uz] at this;omega
   obtain⟨rl,I⟩:∃rl,Hid ((Sp.iE (Es.take k) x.dp).length=rl):=⟨_,rfl⟩
   rw[cT I] at aF;go_upto_region 5 with fail;generalize V:Wl _ _=l;have W:V4 wr l:=by rw[<-V];exact V3.alloc V2 _
   have y:l.heap[N (E wr)]?=S (D #[Z Y (x.dp:Int),Z Y (x.cS:Int),Z Y x.n] 162 (0,0)):=by rw[<-V];exact Tk wr _
   clear V d0 d1 d2;have r:=(cT HV).below W;have ah:Below (N (E w)+1) F l:=hb.trans (W.mono (by omega));have y0:l.cell? ⟨N (E wr),0,U⟩=S (Z Y (x.dp:Int)):=by simp[Wj,y]
   have y1:l.cell? ⟨N (E wr),1,U⟩=S (Z Y (x.cS:Int)):=by simp[Wj,y]
   have y2:l.cell? ⟨N (E wr),2,U⟩=S (Z Y x.n):=by simp[Wj,y]
   have aG:N (E wr)<N (E l):=Tu l _ y0;have ai:=r.cell z;have aH:l.frozen? ⟨N (E w)+1,x.dp,U⟩=Wg:=r.o.frozenAt x.dp;have aj:=r.lt;have X:=r.own x.dp z;rw[cT I] at X;obtain⟨sl,K⟩:∃sl,f x.dp=sl:=⟨_,rfl⟩
   have ak:=cU r;have an:=r.nd x.dp z;rw[K] at ai X an;have L:=cU K;have ao:S (N (E wr))≠sl.ownBlock:=λe=>by have h:=((cT HV).own x.dp z).lt (N (E wr)) (by rw[K];exact e.symm);omega
   clear K y W r;have P:S (N (E w)+1)≠sl.ownBlock:=λe=>an e.symm
   apply uM (λA w'=>∃f',Hid (tj w' (N (E w)+1) (N (E w)+1) n f' (Es.take (k+1)))/\Hid (Below (N (E w)+1) F w'));apply Exists.intro;apply And.intro
   case left =>
    go_region_law ((refine step_append_lies _ (by rfl) _ _ _ (by rfl) (N (E w)+1) 162 t2 _ 3 24 underlying66 ar au av aw rfl (by omega) sl _ _ (by rfl) (by first|exact X.alloc _|exact(X.alloc _).drew|exact X.drew.alloc _) ⟨N (E l),0,U⟩ 1 1 [Z Y (x.dp:Int),Z Y (x.cS:Int),Z Y x.n] (by rfl) (by rfl) (Vv (cs := #[Z Y (x.dp:Int),Z Y (x.cS:Int),Z Y x.n]) (t:=162) (fr:=(0,0)) (Tk l _)) (by simp[Value.oneCell']) (by omega) (by unfold maxLen;omega) (by omega) (by simp;omega) (N (E l)+1) (by simp) ?_;intro g1 M w2 B j aq aM;have aR:w2.cell? ⟨N (E w)+1,x.dp,U⟩=S sl:=(j.cell_far ⟨N (E w)+1,x.dp,U⟩ (by simp;omega) P).trans (((Th (N (E l)) l).alloc V2 _).cell (p:=⟨N (E w)+1,x.dp,U⟩) aj.2 |>.trans ai);have aS:w2.cell? ⟨N (E wr),0,U⟩=S (Z Y (x.dp:Int)):=(j.cell_far ⟨N (E wr),0,U⟩ (by simp;omega) ao).trans (((Th (N (E l)) l).alloc V2 _).cell (p:=⟨N (E wr),0,U⟩) aG |>.trans y0);have aT:w2.frozen? ⟨N (E w)+1,x.dp,U⟩=Wg:=(j.frozen_far ⟨N (E w)+1,x.dp,U⟩ (by simp;omega) P).trans (((Th (N (E l)) l).alloc V2 _).frozen (p:=⟨N (E w)+1,x.dp,U⟩) aj.2 |>.trans aH)))
    all_goals
     first
      | (have hA:V4 l (l.alloc (D #[Z Y (x.dp:Int),Z Y (x.cS:Int),Z Y x.n] 162)):=(Th (N (E l)) l).alloc V2 _
         have C:=((cT ak).below hA).app x z (cT I) (by rw[cT L];exact j) B (by rw[cT L];rcases aq with h|h;exact Wh h;exact Wi (by rw[h];simp));rw[<-cT ag] at C;have s:Below (N (E w)+1) F (w2.setCell ⟨N (E w)+1,x.dp,U⟩ (J (S ⟨g1,0,U⟩) (rl+1) M)):=((ah.trans (hA.mono (by omega))).grown j (by simp;omega) (λq hq=>(X.lt q hq).1)).setCell (p:=⟨N (E w)+1,x.dp,U⟩) V2 _;generalize Value.slice (S ⟨g1,0,U⟩) (rl+1) M=A at *;exact⟨O,A,O,_,C,s⟩)
      | (have hA:V4 l (l.alloc (D #[Z Y (x.dp:Int),Z Y (x.cS:Int),Z Y x.n] 162)).drew:=((Th (N (E l)) l).alloc V2 _).drew
         have C:=((cT ak).below hA).app x z (cT I) (by rw[cT L];exact j) B (by rw[cT L];rcases aq with h|h;exact Wh h;exact Wi (by rw[h];simp));rw[<-cT ag] at C;have s:Below (N (E w)+1) F (w2.setCell ⟨N (E w)+1,x.dp,U⟩ (J (S ⟨g1,0,U⟩) (rl+1) M)):=((ah.trans (hA.mono (by omega))).grown j (by simp;omega) (λq hq=>(X.lt q hq).1)).setCell (p:=⟨N (E w)+1,x.dp,U⟩) V2 _;generalize Value.slice (S ⟨g1,0,U⟩) (rl+1) M=A at *;exact⟨O,A,O,_,C,s⟩)
      |trace_state
   case right =>
   rintro A w4 ⟨f',aI,aJ⟩;go_wp2;go_roundw
   case rel=>exact⟨k+1,f',by omega,by go_num,aI,cT aJ⟩
   case measure=>simp[intOf];omega
  .have af:¬(k:Int)<(m:Int):=by omega
   have aK:k=Es.length:=by rw[cT HM];omega
   have aL:Hid (b (Wd (J (S ⟨N (E w)+1,0,U⟩) n n)) wr):=by
    show b _ _
    rw[<-cT hO];have h:=cT HV;rw[aK,Ut] at h;exact⟨ae,_,f,O,h.low (by omega)⟩
   go_wp2;exact cT aL
section
def PD(B:Nat)(j:Option Addr)(n l cZ:Nat)(Es:List Sp.Ed)(w:V5)(e:Ending)(w':V5):Prop:=V4 w w'/\∃b m,e=Wd (Wc (dY B j n l b m cZ))/\Ht w' b n Es
end
namespace Ru
open Sp (Pg Ed Cfg)
def LG(j hi:Nat)(w:V5)(pe:Option Addr)(n:Nat)(Es:List Ed):Prop := ∀i,i<n->∃b p e,pe=S ⟨b,0,U⟩/\(j<=b/\b<hi)/\w.cell? ⟨b,i,U⟩=S (J p (Sp.iE Es i).length e)/\gh w p (Sp.iE Es i)/\(∀a,p=S a->j<=a.block/\a.block<hi)
theorem LG.eb{m hi:Nat}{w:V5}{pe:Option Addr}{n:Nat}{Es:List Ed}(h:LG m hi w pe n Es)(r:hi<=N (E w)):Ht w pe n Es:=λi j=>by
 obtain⟨e,p,l,a,b,c,d,_⟩:=h i j;exact⟨e,p,l,a,by omega,c,d⟩
theorem P4{m:Nat}{w:V5}{L b n:Nat}{f:Nat->V6}{E:List Sp.Ed}(h:tj w L b n f E)(z:m<=L):LG m w.heap.size w (S ⟨b,0,U⟩) n E:=λi hi=>by
 have j:=h.own i hi;obtain⟨p,r,u,A⟩:=l6 j;refine⟨b,p,r,O,⟨by have:=h.lt;omega,h.lt.2⟩,by rw[h.cell hi,u],A,λa l=>?_⟩;rcases j.2 with ⟨e,_⟩|⟨g,y,B,e,F,C,_⟩
 .rw[u] at e;injection e with e _ _;rw[e] at l;cases l
 .rw[u] at e;injection e with e _ _;rw[e] at l;have l:⟨g,0,U⟩=a:=TG l;subst l;exact⟨by show m<=g;omega,(Ts.1 C).1⟩
def yV(B:Nat)(j:Option Addr)(n l cZ:Nat)(Es:List Sp.Ed)(w:V5)(e:Ending)(w':V5):Prop:=V4 w w'/\∃b m,e=Wd (Wc (dY B j n l b m cZ))/\LG (N (E w)) (N (E w')) w' b n Es
theorem vP(T:Option Addr)(n V:Nat)(u:Option Addr)(y:Nat)(pe:Option Addr)(ke B cZ:Nat)(Es:List Sp.Ed)(w:V5)(he:gh w pe Es)(hn:n<=64)(hm:Es.length<=256)(L:∀x∈Es,x.dp<n):V7 prog 24 #[Wc #[J T n V,J u n y,J pe Es.length ke],V9 (S ⟨B,0,U⟩),Z Y cZ] w (yV B u n y cZ Es w):=by
 generalize X:yV B u n y cZ Es w=b;replace X:=cU X;have q:=cU (λW (hb:V4 w W)=>SH T n V u y pe ke Es W (he.below hb) hn hm L);have M:=cU (rD w #[J T n V,J u n y,J pe Es.length ke] #[V9 U,J U 0 0,J U 0 0,Z Y 0] 68 75);clear he L;generalize Es.length=m at *;have t:Hid (∀(args:Array V6) (w:V5),(callFunc 39 args).run prog w=.ok (.enter 39 args) w):=da func39 (by kernel_rfl) (by kernel_rfl);go_enter func24,ntmps24;go_upto_region 1 with fail;generalize hW:Wl (Wl _ _) _=C;obtain⟨F,P,K,ad⟩:=cT M C hW.symm;clear hW M;have g0:C.cell? ⟨N (E w),0,U⟩=S (J T n V):=by simp[Wj,F]
 have g1:C.cell? ⟨N (E w),1,U⟩=S (J u n y):=by simp[Wj,F]
 have g2:C.cell? ⟨N (E w),2,U⟩=S (J pe m ke):=by simp[Wj,F]
 have s:N (E w)<N (E C):=by omega
 have z:N (E w)+1<N (E C):=by omega
 have o:=cU P;clear F P
 go_region_law (refine du (by rfl) _ _ _ (by rfl) 39 (by rfl) _ (by rfl) (cT t) (cT q _ (by first|exact K|exact K.drew)) ?_;rintro e r ⟨A,l,f,rfl,hv⟩;dsimp only;have G:V4 C r:=(by first|exact A|exact V3.drew.trans (A.mono V2));have Q:tj r (N (E C)) l n f Es:=hv;have q1:r.cell? ⟨N (E w),1,U⟩=S (J u n y):=(G.cell (p:=⟨N (E w),1,U⟩) s).trans g1;have I:=(G.block _ z).trans (cT o);have r0:r.cell? ⟨N (E w)+1,0,U⟩=S (V9 U):=(by simp[Wj,I]);have r1:r.cell? ⟨N (E w)+1,1,U⟩=S (J U 0 0):=(by simp[Wj,I]);have r2:r.cell? ⟨N (E w)+1,2,U⟩=S (J U 0 0):=(by simp[Wj,I]);have r3:r.cell? ⟨N (E w)+1,3,U⟩=S (Z Y 0):=(by simp[Wj,I]);have f0:r.frozen? ⟨N (E w)+1,0,U⟩=Wg:=(by simp[World.frozen?,I]);have f1:r.frozen? ⟨N (E w)+1,1,U⟩=Wg:=(by simp[World.frozen?,I]);have f2:r.frozen? ⟨N (E w)+1,2,U⟩=Wg:=(by simp[World.frozen?,I]);have f3:r.frozen? ⟨N (E w)+1,3,U⟩=Wg:=(by simp[World.frozen?,I]);have g:=cU G;have aa:=cU Q;clear G A hv Q I)
 all_goals
  have ab:Hid (b (Wd (Wc #[V9 (S ⟨B,0,U⟩),J u n y,J (S ⟨l,0,U⟩) n n,Z Y cZ])) ((((r.setCell ⟨N (E w)+1,0,U⟩ (V9 (S ⟨B,0,U⟩))).setCell ⟨N (E w)+1,1,U⟩ (J u n y)).setCell ⟨N (E w)+1,2,U⟩ (J (S ⟨l,0,U⟩) n n)).setCell ⟨N (E w)+1,3,U⟩ (Z Y cZ))):=by
   show b _ _
   rw[<-cT X];have h1:=((((cT aa).MW (R:=N (E w)+1) (j:=0) (v := V9 (S ⟨B,0,U⟩)) z).MW (R:=N (E w)+1) (j:=1) (v := J u n y) z).MW (R:=N (E w)+1) (j:=2) (v := J (S ⟨l,0,U⟩) n n) z).MW (R:=N (E w)+1) (j:=3) (v := Z Y cZ) z;have h2:V4 w r:=K.trans ((cT g).mono (by omega));exact⟨(((h2.setCell (p:=⟨N (E w)+1,0,U⟩) (Uh _) _).setCell (p:=⟨N (E w)+1,1,U⟩) (Uh _) _).setCell (p:=⟨N (E w)+1,2,U⟩) (Uh _) _).setCell (p:=⟨N (E w)+1,3,U⟩) (Uh _) _,_,_,O,P4 h1 (by omega)⟩
  first
   | (go_wp2;exact Tj (v := Wc #[V9 (S ⟨B,0,U⟩),J u n y,J (S ⟨l,0,U⟩) n n,Z Y cZ]) (by simp[results,results24,go_sem,r0,r1,r2,r3]) O (cT ab))
   |trace_state
end Ru
section
theorem LS(m:Option Addr)(n r:Nat)(b:Option Addr)(j:Nat)(pe:Option Addr)(ke B cZ:Nat)(Es:List Sp.Ed)(w:V5)(he:gh w pe Es)(u:n<=64)(y:Es.length<=256)(l:∀x∈Es,x.dp<n):V7 prog 24 #[Wc #[J m n r,J b n j,J pe Es.length ke],V9 (S ⟨B,0,U⟩),Z Y cZ] w (PD B b n j cZ Es w):=by
 refine(Ru.vP m n r b j pe ke B cZ Es w he u y l).mono ?_;rintro e F ⟨z,p,k,A,C⟩;exact⟨z,p,k,A,C.eb V2⟩
end
def vA(b:Sp.nG)(w:V5)(e:Ending)(w':V5):Prop:=V4 w w'/\∃v,e=Wd (Wc #[Z .u8 b.outcome,Z Y b.step,Z Y b.dG,v])/\w'.ownsRow (N (E w)) 2 1 v (Wn b.dJ) (b.dJ.map (Z Y))
theorem Jc{b:Sp.nG}{w m:V5}{o s i:Int}{V:List Int}{p:Option Addr}{n k B:Nat}(r:(b.outcome:Int)=o/\(b.step:Int)=s/\(b.dG:Int)=i/\b.dJ=V/\(Wn V)=n)(hb:V4 w m)(y:m.ownsRow B 2 1 (J p n k) n (V.map (Z Y)))(z:N (E w)+1+1<B):vA b w (Wd (Wc #[Z .u8 o,Z Y s,Z Y i,J p n k])) (j9 m (N (E w)+1+1) (Z .u8 o) (Z Y s) (Z Y i) (J p n k)):=by
 obtain⟨A,C,F,G,I⟩:=r;refine⟨?_,J p n k,by rw[A,C,F],?_⟩
 .have e:N (E w)<=N (E w)+1+1:=by omega
  exact(((hb.setCell (p:=⟨N (E w)+1+1,0,U⟩) e _).setCell (p:=⟨N (E w)+1+1,1,U⟩) e _).setCell (p:=⟨N (E w)+1+1,2,U⟩) e _).setCell (p:=⟨N (E w)+1+1,3,U⟩) e _
 .rw[G,I];have l:∀{W:V5} (j:Nat) (u:V6),W.ownsRow B 2 1 (J p n k) n (V.map (Z Y))->(W.setCell ⟨N (E w)+1+1,j,U⟩ u).ownsRow B 2 1 (J p n k) n (V.map (Z Y)):=λj u h=>TA h (a:=⟨N (E w)+1+1,j,U⟩) z u
  exact fB (l 3 _ (l 2 _ (l 1 _ (l 0 _ y)))) (by omega)
structure Mz (W0 wr:V5) (K n:Nat) (P:Sp.Pg) (Es:List Sp.Ed) (cZ s:Nat) (c:Sp.Cfg) (p:Option Addr) (cap:Nat) (res:Sp.nG):Prop where
 cb:wr.heap[K]?=S (D #[Z Y (s:Int),J p n cap,Z Y c.all] 80 (0,0))
 vx:kA wr p c n
 ok:Sp.eY n c
 go:Sp.Cu P Es cZ (cZ+1-s) s c=res
 sv:eK K K W0 wr
def sC(K:Nat)(w:V5):Nat:=match w.cell? ⟨K,0,U⟩ with
 |some v=>(intOf v).toNat
 |none=>0
theorem nk{w:V5}{K:Nat}{n:Int}(h:w.cell? ⟨K,0,U⟩=S (Z Y n)):sC K w=n.toNat:=by
 unfold sC;rw[h];rfl
theorem Mz.next{C l:V5}{K n:Nat}{P:Sp.Pg}{Es:List Sp.Ed}{cZ s cap B:Nat}{p:Option Addr}{c:Sp.Cfg}{m:Sp.nG}{x y z:V6}(o:Obj)(hb:l.heap[K]?=S (D #[x,y,z] 80 (0,0)))(G:l.ownsRow B 104 4 (J p n cap) n (jk c.val c.fD c.iH c.jf n))(I:K<B)(L:Sp.eY n c)(M:Sp.Cu P Es cZ (cZ+1-(s+1)) (s+1) c=m)(Q:eK K K C l):Mz C ((fM l K (Z Y ((s:Int)+1)) (J p n cap) (Z Y c.all)).alloc o) K n P Es cZ (s+1) c p cap m:=by
 have r:=fa (i:=2) (fa (i:=1) (fa (i:=0) hb (Z Y ((s:Int)+1))) (J p n cap)) (Z Y c.all);have b:(fM l K (Z Y ((s:Int)+1)) (J p n cap) (Z Y c.all)).heap[K]?=S (D #[Z Y ((s:Int)+1),J p n cap,Z Y c.all] 80 (0,0)):=by
  unfold fM;simpa using r
 have u:Below (fM l K (Z Y ((s:Int)+1)) (J p n cap) (Z Y c.all)).heap.size (fM l K (Z Y ((s:Int)+1)) (J p n cap) (Z Y c.all)) ((fM l K (Z Y ((s:Int)+1)) (J p n cap) (Z Y c.all)).alloc o):=V3.alloc V2 _;have A:=pG G I (Z Y ((s:Int)+1)) (J p n cap) (Z Y c.all);obtain⟨T,F,e,R⟩:=gV (all:=c.all) A;injection e with e1 _ e3;subst e1 e3;refine⟨?_,kA.below R u,L,M,?_⟩
 .rw[u.block K (Ts.1 b).1,b];rfl
 .exact(((Q.set (q:=K) (j:=0) (Wh O) _).set (q:=K) (j:=1) (Wh O) _).set (q:=K) (j:=2) (Wh O) _).trans (eK.gM u)
theorem prun(B:Nat)(pf:Option Addr)(n kf:Nat)(pe:Option Addr)(ke cZ:Nat)(P:Sp.Pg)(Es:List Sp.Ed)(p:Option Addr)(cap:Nat)(c0:Sp.Cfg)(z f:Addr)(F:Nat)(r:Sp.nG)(w:V5)(hp:jH w B P)(aI:j6 w z f)(he:Ht w pe n Es)(hv:kA w p c0 n)(aJ:Sp.eY n c0)(hj:Sp.iM P Es n)(hl:cZ<=200)(ar:Sp.Cu P Es cZ (cZ+1) 0 c0=r)(bj:∀(args:Array V6) (w:V5),(callFunc F args).run prog w=.ok (.enter F args) w)(aK:∀(a:Int) (q:Option Addr) (m k:Nat) (b:Int) (W:V5),V7 prog F #[Wc #[Z Y a,J q m k,Z Y b]] W λe w'=>e=Wd (Wb #[])/\V4 W w'):V7 prog 25 #[Wc (dY B pf n kf pe ke cZ),gz 0 p n cap c0.all,.func (.func F) #[] #[]] w (vA r w):=by
 generalize hO:vA r w=j;replace hO:=cU hO;have HP:=cU hp;have HR:=cU aI;have HE:=cU he;have HJ:=cU hj;have aX:=cU aK;have ab:=hj.FW;have aL:=cU (jj w (dY B pf n kf pe ke cZ) #[Z Y 0,J p n cap,Z Y c0.all] #[Z .u8 0,Z Y 0,Z Y 0,J U 0 0] 75 80 32);have aM:Hid (∀W,V4 w W->W.heap[N (E w)+1]?=S (D #[Z Y 0,J p n cap,Z Y c0.all] 80 (0,0))->Mz W W (N (E w)+1) n P Es cZ 0 c0 p cap r):=λW hb hk=>⟨hk,hv.below hb,aJ,ar,eK.refl _ _ _⟩
 have au:Hid (∀(args:Array V6) (w:V5),(callFunc 41 args).run prog w=.ok (.enter 41 args) w):=da func41 (by kernel_rfl) (by kernel_rfl);clear hp aI he hv aJ hj aK ar;unfold gz;unfold dY at *;go_enter func25,ntmps25;go_wp2_with fail;generalize hW:Wl (Wl _ _) _=W0;obtain⟨aN,aO,aP,aQ,bk⟩:=cT aL W0 hW.symm;have aY:=cU aN;have aZ:=cU aP;have aR:=cU (cT aM W0 aQ aO);clear hW aL aN aO aP aM
 go_loopw [7] (λ_ wr=>∃(s:Nat) (c:Sp.Cfg) (p:Option Addr) (cap:Nat),s<=cZ/\Hid (Mz W0 wr (N (E w)+1) n P Es cZ s c p cap r)) (λ_ wr=>cZ+1-sC (N (E w)+1) wr)
 case atStart=>exact⟨0,c0,p,cap,Tp _,aR⟩
 case round =>
  clear aR;obtain⟨s,c,p,cap,hs,HI⟩:=hrel;have ad:=(cT HI).sv;have bd:=ad.size;have I:V4 w wr:=aQ.trans (ad.below (by omega) (by omega) (by omega));have t:=cU ((ad.block (N (E w)+1+1) (by omega) (by omega) (by omega)).trans (cT aZ));have az:=cU ((ad.block (N (E w)) (by omega) (by omega) (by omega)).trans (cT aY));obtain⟨j0,j1,j2,j3⟩:=fQ (B:=B) (pf:=pf) (n:=n) (kf:=kf) (pe:=pe) (ke:=ke) (cZ:=cZ) (cT az);obtain⟨k0,k1,k2,_⟩:=dR (cT HI).cb;have a1:Hid (sC (N (E w)+1) wr=s):=by show _=_;rw[nk k0];rfl
  have ak:=cU (pending B pf n kf pe ke cZ s p n cap c wr (cT HI).vx (cT HI).ok.lv ab (by omega) hl);unfold gz dY at ak;have aS:=Bd cZ c s;obtain⟨en,aA⟩:∃en,Hid (Sp.gy cZ c s=en):=⟨_,rfl⟩
  rw[cT aA] at ak aS;go_wp2_with fail;refine(cT ak).mono ?_;rintro e w2 ⟨rfl,L⟩;have bn:=L.size;have u:Hid (Mz W0 w2 (N (E w)+1) n P Es cZ s c p cap r):=⟨(L.block _ (Ts.1 (cT HI).cb).1).trans (cT HI).cb,(cT HI).vx.below L,(cT HI).ok,(cT HI).go,(cT HI).sv.trans (eK.gM L)⟩
  have X:V4 w w2:=I.trans (L.mono I.size);have ae:=cU ((L.block (N (E w)+1+1) (by omega)).trans (cT t));have av:=cU ((L.block (N (E w)) (by omega)).trans (cT az));clear j0 j1 j2 j3 k0 k1 k2 ak t az I ad L;obtain⟨k0,k1,k2,_⟩:=dR (cT u).cb;have an:N (E w)+1<N (E w2):=by omega
  have ao:N (E w)+1+1<N (E w2):=by omega
  by_cases c1:en=0
  .subst c1;obtain⟨bg,aB⟩:=Pp (cT u).go hs (cT aA);rw[(cT u).ok.lv] at aB;have aC:=cU aB;clear aB aS HI;go_wp2_with fail;refine(cT aX _ _ _ _ _ _).mono ?_;rintro e w3 ⟨rfl,M⟩;have bo:=M.size;have Q:V4 w w3:=X.trans (M.mono X.size);have y:Hid (Mz W0 w3 (N (E w)+1) n P Es cZ s c p cap r):=⟨(M.block _ an).trans (cT u).cb,(cT u).vx.below M,(cT u).ok,(cT u).go,(cT u).sv.trans (eK.gM M)⟩
   have aw:=cU ((M.block (N (E w)+1+1) ao).trans (cT ae));have af:=cU ((M.block (N (E w)) (by omega)).trans (cT av));clear k0 k1 k2 u ae av M X;obtain⟨j0,j1,j2,j3⟩:=fQ (B:=B) (pf:=pf) (n:=n) (kf:=kf) (pe:=pe) (ke:=ke) (cZ:=cZ) (cT af);obtain⟨k0,k1,k2,_⟩:=dR (cT y).cb;have g:=cU (Ks B pf n kf pe ke cZ P Es p cap s c z f w3 ((cT HP).below Q) ((cT HR).below Q) ((cT HE).below Q) (cT y).vx (cT y).ok (cT HJ) (by omega));unfold gz dY at g;obtain⟨o,aT⟩:∃o,Hid (Sp.lK P Es c s n=o):=⟨_,rfl⟩
   rw[cT aT] at g aC;go_wp2_with fail;cases o with
   |error i =>
    refine(cT g).mono ?_;rintro e w4 ⟨A,rfl⟩;have a6:=A.size;have ax:V4 w w4:=Q.trans (A.mono Q.size);have aq:Hid (Mz W0 w4 (N (E w)+1) n P Es cZ s c p cap r):=⟨(A.block _ (by omega)).trans (cT y).cb,(cT y).vx.below A,(cT y).ok,(cT y).go,(cT y).sv.trans (eK.gM A)⟩
    have ag:Hid ((r.outcome:Int)=3/\(r.step:Int)=(s:Int)/\(r.dG:Int)=(i:Int)/\r.dJ=c.val/\(Wn c.val)=n):=by
     have h:(⟨3,s,i,c.val⟩:Sp.nG)=r:=cT aC;rw[<-h];exact⟨O,O,O,O,(cT aq).ok.lv⟩
    have ay:=(A.block (N (E w)+1+1) (by omega)).trans (cT aw);clear j0 j1 j2 j3 k0 k1 k2 y af A g;go_upto_region 7 with fail;generalize aU:Wl _ _=w5;have aa:V4 w4 w5:=by rw[<-aU];exact V3.alloc V2 _
    have bp:=aa.size;have t:=cU ((aa.block (N (E w)+1+1) (by omega)).trans ay);have I:V4 w w5:=ax.trans (aa.mono ax.size);obtain⟨k0,k1,k2,_⟩:=dR ((aa.block _ (by omega)).trans (cT aq).cb);have an:N (E w)+1<N (E w5):=by omega
    have ao:N (E w)+1+1<N (E w5):=by omega
    have aD:N (E w)+1+1<N (E w5):=by omega
    have ah:Hid (∀W,V4 w5 W->V7 prog 41 #[Wc #[Z Y (s:Int),J p n cap,Z Y c.all]] W λe w'=>V4 W w'/\∃v,e=Wd v/\w'.ownsRow (N (E w5)) 2 1 v n (c.val.map (Z Y))):=by
     show ∀W,_
     intro W hW;refine(rS s p n cap c W (((cT aq).vx.below aa).below hW) (cT aq).ok.lv ab).mono ?_;rintro e w' ⟨h1,v,h2,h3⟩;exact⟨h1,v,h2,fB h3 hW.size⟩
    clear aU aa ay
    go_region_law (refine du (by rfl) _ _ _ (by rfl) 41 (by rfl) _ (by rfl) (cT au) (cT ah _ (by first|exact Th _ _|exact V3.drew)) ?_;rintro e C ⟨G,vv,rfl,R⟩;obtain⟨T,V,ai,_⟩:=dm R;subst ai;dsimp only;have K:V4 w5 C:=(by first|exact G|exact V3.drew.trans (G.mono V2));have q0:C.cell? ⟨N (E w)+1,0,U⟩=S (Z Y (s:Int)):=(K.cell (p:=⟨N (E w)+1,0,U⟩) an).trans k0;have l:=(K.block (N (E w)+1+1) ao).trans (cT t);have r0:C.cell? ⟨N (E w)+1+1,0,U⟩=S (Z .u8 0):=(by simp[Wj,l]);have a7:C.frozen? ⟨N (E w)+1+1,0,U⟩=Wg:=(by simp[World.frozen?,l]);have r1:C.cell? ⟨N (E w)+1+1,1,U⟩=S (Z Y 0):=(by simp[Wj,l]);have a8:C.frozen? ⟨N (E w)+1+1,1,U⟩=Wg:=(by simp[World.frozen?,l]);have r2:C.cell? ⟨N (E w)+1+1,2,U⟩=S (Z Y 0):=(by simp[Wj,l]);have ba:C.frozen? ⟨N (E w)+1+1,2,U⟩=Wg:=(by simp[World.frozen?,l]);have r3:C.cell? ⟨N (E w)+1+1,3,U⟩=S (J U 0 0):=(by simp[Wj,l]);have bc:C.frozen? ⟨N (E w)+1+1,3,U⟩=Wg:=(by simp[World.frozen?,l]);have aE:=cU K;have aF:=cU R;clear K G R l)
    all_goals
     have aG:Hid (j (Wd (Wc #[Z .u8 3,Z Y (s:Int),Z Y (i:Int),J T n V])) (j9 C (N (E w)+1+1) (Z .u8 3) (Z Y (s:Int)) (Z Y (i:Int)) (J T n V))):=by
      show j _ _
      rw[<-cT hO];exact Jc (cT ag) (I.trans ((cT aE).mono I.size)) (cT aF) aD
     first
      | (go_wp2;exact Tj (v := Wc #[Z .u8 3,Z Y (s:Int),Z Y (i:Int),J T n V]) (by simp[results,results25,go_sem,r0,r1,r2,r3]) O (cT aG))
      |trace_state
   |ok a =>
    refine(cT g).mono ?_;rintro e w4 ⟨A,sl,rfl,aH⟩;have a6:=A.size;obtain⟨pn,kn,ai,_⟩:=dm aH;subst ai;have aV:Sp.eY n (Sp.fi P n a):=Sp.qP (cT HJ) (Sp.sT (cT HJ) lQ (cT y).ok (by omega) n V2 a (cT aT));have aj:=(A.block (N (E w)+1) (by omega)).trans (cT y).cb;have aW:Hid (∀o,Mz W0 ((fM w4 (N (E w)+1) (Z Y ((s:Int)+1)) (J pn n kn) (Z Y a.all)).alloc o) (N (E w)+1) n P Es cZ (s+1) (Sp.fi P n a) pn kn r):=λo=>Mz.next o aj aH (by omega) aV (cT aC) ((cT y).sv.trans (eK.gM A))
    clear j0 j1 j2 j3 k0 k1 k2;obtain⟨k0,k1,k2,kf⟩:=dR aj;have f0:=kf 0;have f1:=kf 1;have f2:=kf 2;have bh:N (E w)+1<N (E w4):=by omega
    clear aH A aj y af g aw kf;go_wp2;go_roundw
    case rel=>exact⟨s+1,_,pn,kn,by omega,cU (cT aW _)⟩
    case measure =>
     have h1:=cT a1;have h2:=nk (dR (cT aW (D #[Z Y ((s:Int)+1),J pn n kn,Z Y a.all] 80)).cb).1;unfold fM at h2;rw[h1,h2];omega
  .have bq:(en != 0)=We:=by rw[UZ];exact c1
   obtain⟨e1,e2,e3,e4⟩:=Na (cT u).go hs (cT aA) c1;have ag:Hid ((r.outcome:Int)=en/\(r.step:Int)=(s:Int)/\(r.dG:Int)=0/\r.dJ=c.val/\(Wn c.val)=n):=⟨e1,by rw[e2],by rw[e3];rfl,e4,(cT u).ok.lv⟩
   have t:=ae;have I:=X;have aD:N (E w)+1+1<N (E w2):=by omega
   have ah:Hid (∀W,V4 w2 W->V7 prog 41 #[Wc #[Z Y (s:Int),J p n cap,Z Y c.all]] W λe w'=>V4 W w'/\∃v,e=Wd v/\w'.ownsRow (N (E w2)) 2 1 v n (c.val.map (Z Y))):=by
    show ∀W,_
    intro W hW;refine(rS s p n cap c W ((cT u).vx.below hW) (cT u).ok.lv ab).mono ?_;rintro e w' ⟨h1,v,h2,h3⟩;exact⟨h1,v,h2,fB h3 hW.size⟩
   clear e1 e2 e3 e4 c1;go_upto_region 3 with fail
   go_region_law (refine du (by rfl) _ _ _ (by rfl) 41 (by rfl) _ (by rfl) (cT au) (cT ah _ (by first|exact Th _ _|exact V3.drew)) ?_;rintro e C ⟨G,vv,rfl,R⟩;obtain⟨T,V,ai,_⟩:=dm R;subst ai;dsimp only;have K:V4 w2 C:=(by first|exact G|exact V3.drew.trans (G.mono V2));have q0:C.cell? ⟨N (E w)+1,0,U⟩=S (Z Y (s:Int)):=(K.cell (p:=⟨N (E w)+1,0,U⟩) an).trans k0;have l:=(K.block (N (E w)+1+1) ao).trans (cT t);have r0:C.cell? ⟨N (E w)+1+1,0,U⟩=S (Z .u8 0):=(by simp[Wj,l]);have a7:C.frozen? ⟨N (E w)+1+1,0,U⟩=Wg:=(by simp[World.frozen?,l]);have r1:C.cell? ⟨N (E w)+1+1,1,U⟩=S (Z Y 0):=(by simp[Wj,l]);have a8:C.frozen? ⟨N (E w)+1+1,1,U⟩=Wg:=(by simp[World.frozen?,l]);have r2:C.cell? ⟨N (E w)+1+1,2,U⟩=S (Z Y 0):=(by simp[Wj,l]);have ba:C.frozen? ⟨N (E w)+1+1,2,U⟩=Wg:=(by simp[World.frozen?,l]);have r3:C.cell? ⟨N (E w)+1+1,3,U⟩=S (J U 0 0):=(by simp[Wj,l]);have bc:C.frozen? ⟨N (E w)+1+1,3,U⟩=Wg:=(by simp[World.frozen?,l]);have aE:=cU K;have aF:=cU R;clear K G R l)
   all_goals
    have aG:Hid (j (Wd (Wc #[Z .u8 en,Z Y (s:Int),Z Y 0,J T n V])) (j9 C (N (E w)+1+1) (Z .u8 en) (Z Y (s:Int)) (Z Y 0) (J T n V))):=by
     show j _ _
     rw[<-cT hO];exact Jc (cT ag) (I.trans ((cT aE).mono I.size)) (cT aF) aD
    first
     | (go_wp2;exact Tj (v := Wc #[Z .u8 en,Z Y (s:Int),Z Y 0,J T n V]) (by simp[results,results25,go_sem,r0,r1,r2,r3]) O (cT aG))
     |trace_state
section
structure lL (w:V5):Prop where
 DG:jF w
 split:ez w
 err:∃u p,w.cell? ⟨5,0,U⟩=S (.iface u p)
variable {w w':V5}
theorem lL.below(h:lL w)(hb:V4 w w'): lL w':=by
 obtain⟨u,p,b⟩:=h.err;exact⟨h.DG.below hb h.DG.lt,gQ h.split hb h.split.lt,u,p,(hb.cell (p:=⟨5,0,U⟩) (Tu w _ b)).trans b⟩
theorem FX(s:V8)(w:V5)(h:lL w):V7 prog 38 #[H s] w (AK s w):=by
 by_cases b:2000<s.size
 .exact Dl s w b
 .obtain⟨u,p,e⟩:=h.err;exact A2 s w (by omega) h.DG h.split u p e
theorem yo(a b c:Int)(w:V5):V7 prog 23 #[Z Y a,Z Y b,Z Y c] w λe w'=>e=Wd (Wa (decide (b<=a)&&decide (a<=c)))/\w'=w:=by
 by_cases l:b<=a
 .by_cases r:a<=c
  .have j:=TU l;have m:=TU r;go_enter func23,ntmps23;go_wp2;go_ret
   first|exact⟨rfl,rfl⟩|exact⟨by rw[j,m];rfl,O⟩
  .have j:=TU l;have m:=TE r;go_enter func23,ntmps23;go_wp2;go_ret
   first|exact⟨rfl,rfl⟩|exact⟨by rw[j,m];rfl,O⟩
 .have j:=TE l;go_enter func23,ntmps23;go_wp2;go_ret
  first|exact⟨rfl,rfl⟩|exact⟨by rw[j];rfl,O⟩
variable {t:TypeId}{R:Nat}
theorem zT{W:V5}{C:Array V6}(h:W.heap[R]?=S (D C t (0,0)))(o:Obj)(i:Nat): (W.alloc o).cell? ⟨R,i,U⟩=C[i]?:=by
 rw[World.cell?_alloc_lt W o ⟨R,i,U⟩ (Ts.1 h).1];exact Ti W R i C t (0,0) h
theorem ft.far{g:Nat}{L:List (List UInt8)}{a b c:V6}(h:ft w g L)(m:g≠R)(u:w.heap[R]?=S (D #[a,b,c] t (0,0)))(l:∀k,k≠R->w'.heap[k]?=w.heap[k]?)(r:N (E w)<=N (E w')): ft w' g L:=by
 have e:∀i,w'.cell? ⟨g,i,U⟩=w.cell? ⟨g,i,U⟩:=λi=>by unfold Wj;rw[l g m]
 obtain⟨y,z,A⟩:=h.tX;refine⟨TI h.lt r,λi hi=>?_,y,z,λi hi=>(e _).trans (A i hi)⟩;obtain⟨C,F,G⟩:=h.fn i hi;refine⟨C,(e _).trans F,?_⟩;rcases G with ⟨B,n,P,I,j,K⟩|q
 .refine Wh ⟨B,n,by omega,I,?_,K⟩;have M:B≠R:=by
   rintro rfl;unfold kd at j;rw[u] at j;injection j with j;injection j with j _ _;have:=congrArg Array.size j;simp at this
  unfold kd at j ⊢;rw[l B M];exact j
 .exact Wi q
theorem mG.far{X:List V8}{P i:Nat}{C:Array V6}{a b c:V6}(h:mG X w P C i)(F:R<P)(r:w.heap[R]?=S (D #[a,b,c] t (0,0)))(e:∀k,k≠R->w'.heap[k]?=w.heap[k]?)(l:N (E w)<=N (E w')): mG X w' P C i:=⟨h.size,h.shape,λj u y=>by obtain⟨g,m,z,A,B⟩:=h.code j u y;exact⟨g,m,z,A,B.far (by omega) r e l⟩,h.comb⟩
def iL(g p:V8):Int:=if yt g≠0 then yt g else (Sp.comp p).1
def zL(g p:V8)(w:V5)(e:Ending)(w':V5):Prop:=V4 w w'/\Small g/\∃y b z j l A m r C u,e=Wd (Wb #[Wc #[J y b z,J j l A,J m r C],V9 u,Z Y (iL g p)])/\
  (iL g p=0->b=(jl g).length/\l=(jl g).length/\r=(pP g).length/\fG w' Y j (jl g)/\gh w' m (pP g)/\∃B,u=S ⟨B,0,U⟩/\jH w' B (Sp.ir p))
end
namespace Ru
open Sp (Pg Ed Cfg)
structure wB (lo hi:Nat) (w:V5) (B:Nat) (P:Pg):Prop where
 bl:lo<=B/\B<hi
 hl:hi<=N (E w)
 code:∀i,i<5->∃g cap,(lo<=g/\g<hi)/\w.cell? ⟨B,i*4,U⟩=S (J (S ⟨g,0,U⟩) (P.code i).length cap)/\oj w g (P.code i)
 pq:m8 w B 21 P.pq
 al:m8 w B 25 P.al
theorem wB.SU{e hi:Nat}{w:V5}{B:Nat}{P:Pg}(h:wB e hi w B P):jH w B P:=⟨by have:=h.bl;have:=h.hl;omega,λi hi=>by obtain⟨g,b,_,j,l⟩:=h.code i hi;exact⟨g,b,j,l⟩,h.pq,h.al⟩
theorem My{l:Nat}{s:V8}{w:V5}{P:Nat}{C:Array V6}{t:TypeId}(b:l<=P)(m:(Sp.comp s).1=0)(hb:w.heap[P]?=S (D C t (0,0)))(r:mG (Sp.split s 10) w P C 7):wB l (N (E w)) w P (Sp.ir s):=by
 have e:=PU m hb r;refine⟨⟨b,e.lt⟩,Te _,λi hi=>?_,e.pq,e.al⟩;obtain⟨g,j,y,z,u⟩:=r.code i (by omega) hi;exact⟨g,j,⟨by omega,u.lt⟩,(Ti w P (i*4) C t (0,0) hb).trans y,ES u (Sp.sU m hi)⟩
def Eg(g p:V8)(w:V5)(e:Ending)(w':V5):Prop:=V4 w w'/\Small g/\∃y b z j l A m r C u,e=Wd (Wb #[Wc #[J y b z,J j l A,J m r C],V9 u,Z Y (iL g p)])/\
  (iL g p=0->b=(jl g).length/\l=(jl g).length/\r=(pP g).length/\fG w' Y j (jl g)/\gh w' m (pP g)/\∃B,u=S ⟨B,0,U⟩/\wB (N (E w)) (N (E w')) w' B (Sp.ir p))
theorem Bj(g p:V8)(w:V5)(hT:Lib.Utf8Tabs 3 4 w)(hC:lL w):V7 prog 22 #[H g,H p] w (Eg g p w):=by
 generalize hO:Eg g p w=b;replace hO:=cU hO;have s:V4 w (w.alloc (D #[J U 0 0,J U 0 0,J U 0 0] 68)):=V3.alloc V2 _;have af:=Tk w (D #[J U 0 0,J U 0 0,J U 0 0] 68);have aC:=TK w (D #[J U 0 0,J U 0 0,J U 0 0] 68);have HP:=cU (λW (hb:V4 w W)=>qE g W (eN hT hb) (eU hC.split hb));have HC:=cU (λW (hb:V4 w W)=>FX p W (hC.below hb));clear hT hC;go_enter func22,ntmps22;go_wp2_with fail;generalize hW:Wl _ _=W0 at *;refine(cT HP W0 s).mono ?_;rintro e m ⟨ag,ah⟩;have ai:=cU ah;obtain⟨I,v,u,x,rfl,o0,o1,o2⟩:=CY ag;obtain⟨K,L,rfl,i0⟩:=mP o0;obtain⟨M,Q,rfl,i1⟩:=mP o1;obtain⟨R,T,rfl,i2⟩:=l6 o2;rw[M1];have aj:=cU o1;have ak:=cU o2;obtain⟨ea,V⟩:∃ea,Hid (yt g=ea):=⟨_,rfl⟩
 obtain⟨eb,aq⟩:∃eb,Hid (Su g=eb):=⟨_,rfl⟩
 obtain⟨n,aa⟩:∃n,Hid ((jl g).length=n):=⟨_,rfl⟩
 obtain⟨G,an⟩:∃G,Hid ((pP g).length=G):=⟨_,rfl⟩
 rw[cT V,cT aq,cT aa,cT an];have r:V4 w m:=s.trans (I.mono s.size);have j:=(I.block (N (E w)) (by omega)).trans af;have aD:=I.size;clear ag o0 o1 o2 i0 i1 i2 hW af I ah;unfold dL;by_cases c1:ea=0
 .subst c1;go_wp2_with fail;generalize ab:Wl _ _=W1;have F:V4 m W1:=by rw[<-ab];exact V3.alloc V2 _
  have X:W1.heap[N (E m)]?=S (D #[J K n L,J M n Q,J R G T] 68 (0,0)):=by rw[<-ab];exact Tk m _
  clear ab;refine(cT HC W1 (r.trans (F.mono r.size))).mono ?_;rintro e B ⟨ad,pv,rfl,ar⟩;have au:=cU ar;have aE:=cU F.size;obtain⟨ca,q⟩:∃ca,Hid ((Sp.comp p).1=ca):=⟨_,rfl⟩
  obtain⟨cb,av⟩:∃cb,Hid ((Sp.comp p).2=cb):=⟨_,rfl⟩
  rw[cT q,cT av];have l:V4 m B:=F.trans (ad.mono F.size);have ao:V4 w B:=r.trans (l.mono r.size);have t:=(ad.block (N (E m)) (Ts.1 X).1).trans X;have y:=(l.block (N (E w)) (by omega)).trans j;have aF:=l.size;have aG:=(Ts.1 X).1;have r0:B.cell? ⟨N (E w),0,U⟩=S (J U 0 0):=by simp[Wj,y]
  have r1:B.cell? ⟨N (E w),1,U⟩=S (J U 0 0):=by simp[Wj,y]
  have r2:B.cell? ⟨N (E w),2,U⟩=S (J U 0 0):=by simp[Wj,y]
  have aw:B.frozen? ⟨N (E w),0,U⟩=Wg:=by simp[World.frozen?,y]
  have ax:B.frozen? ⟨N (E w),1,U⟩=Wg:=by simp[World.frozen?,y]
  have ay:B.frozen? ⟨N (E w),2,U⟩=Wg:=by simp[World.frozen?,y]
  have g0:B.cell? ⟨N (E m),0,U⟩=S (J K n L):=by simp[Wj,t]
  have g1:B.cell? ⟨N (E m),1,U⟩=S (J M n Q):=by simp[Wj,t]
  have g2:B.cell? ⟨N (E m),2,U⟩=S (J R G T):=by simp[Wj,t]
  have ae:Hid (b (Wd (Wb #[Wc #[J K n L,J M n Q,J R G T],V9 pv,Z Y ca])) (((B.setCell ⟨N (E w),0,U⟩ (J K n L)).setCell ⟨N (E w),1,U⟩ (J M n Q)).setCell ⟨N (E w),2,U⟩ (J R G T))):=by
   show b _ _
   rw[<-cT hO];have z:iL g p=ca:=by unfold iL;rw[Tf (by rw[cT V];simp),cT q]
   refine⟨((ao.setCell (p:=⟨N (E w),0,U⟩) V2 _).setCell (p:=⟨N (E w),1,U⟩) V2 _).setCell (p:=⟨N (E w),2,U⟩) V2 _,cT ai,K,n,L,M,n,Q,R,G,T,pv,by rw[z],λh0=>⟨(cT aa).symm,(cT aa).symm,(cT an).symm,?_,?_,?_⟩⟩
   .have o:=de (cT aj) l;have o':=TA (TA (TA o (a:=⟨N (E w),0,U⟩) (by show (N (E w))<_;omega) (J K n L)) (a:=⟨N (E w),1,U⟩) (by show (N (E w))<_;omega) (J M n Q)) (a:=⟨N (E w),2,U⟩) (by show (N (E w))<_;omega) (J R G T);obtain⟨pp,kk,ee,ii⟩:=mP o';injection ee with ee _ _;rw[<-ee] at ii;exact ii
   .have o:=de (cT ak) l;have o':=TA (TA (TA o (a:=⟨N (E w),0,U⟩) (by show (N (E w))<_;omega) (J K n L)) (a:=⟨N (E w),1,U⟩) (by show (N (E w))<_;omega) (J M n Q)) (a:=⟨N (E w),2,U⟩) (by show (N (E w))<_;omega) (J R G T);obtain⟨pp,kk,ee,ii⟩:=l6 o';injection ee with ee _ _;rw[<-ee] at ii;exact ii
   .obtain⟨P,C,e1,e2,e3,e4,e5⟩:=cT au (by rw[cT q,<-z];exact h0);refine⟨P,e1,?_⟩;have az:N (E w)<P:=by have:=F.size;omega
    have A:∀k,k≠(N (E w))->(((B.setCell ⟨N (E w),0,U⟩ (J K n L)).setCell ⟨N (E w),1,U⟩ (J M n Q)).setCell ⟨N (E w),2,U⟩ (J R G T)).heap[k]?=B.heap[k]?:=λk hk=>(Tv _ _ _ k hk).trans ((Tv _ _ _ k hk).trans (Tv _ _ _ k hk))
    exact My (by omega) (by rw[cT q,<-z];exact h0) ((A P (by omega)).trans e3) (e4.far az y A (by simp[World.setCell]))
  clear ad l F X t j y aj ak;go_wp2;exact Tj (v := Wb #[Wc #[J K n L,J M n Q,J R G T],V9 pv,Z Y ca]) (by simp[results,results22,go_sem,r0,r1,r2]) O (cT ae)
 .have aH:(ea != 0)=We:=by rw[UZ];exact c1
  have z:iL g p=ea:=by unfold iL;rw[Tg (by rw[cT V];exact c1),cT V]
  have r0:m.cell? ⟨N (E w),0,U⟩=S (J U 0 0):=by simp[Wj,j]
  have r1:m.cell? ⟨N (E w),1,U⟩=S (J U 0 0):=by simp[Wj,j]
  have r2:m.cell? ⟨N (E w),2,U⟩=S (J U 0 0):=by simp[Wj,j]
  have aw:m.frozen? ⟨N (E w),0,U⟩=Wg:=by simp[World.frozen?,j]
  have ax:m.frozen? ⟨N (E w),1,U⟩=Wg:=by simp[World.frozen?,j]
  have ay:m.frozen? ⟨N (E w),2,U⟩=Wg:=by simp[World.frozen?,j]
  have aI:N (E w)<N (E m):=by omega
  have A:=fa (i:=2) (fa (i:=1) (fa (i:=0) j (J U 0 0)) (J U 0 0)) (J U 0 0);have aA:=cU (λo i'=>zT A o i');have ae:Hid (∀o,b (Wd (Wb #[Wc #[J U 0 0,J U 0 0,J U 0 0],V9 U,Z Y ea])) ((((m.setCell ⟨N (E w),0,U⟩ (J U 0 0)).setCell ⟨N (E w),1,U⟩ (J U 0 0)).setCell ⟨N (E w),2,U⟩ (J U 0 0)).alloc o)):=by
   show ∀o,_
   intro o;rw[<-cT hO];have h5:=((r.setCell (p:=⟨N (E w),0,U⟩) V2 (J U 0 0)).setCell (p:=⟨N (E w),1,U⟩) V2 (J U 0 0)).setCell (p:=⟨N (E w),2,U⟩) V2 (J U 0 0);exact⟨h5.alloc h5.size o,cT ai,U,0,0,U,0,0,U,0,0,U,by rw[z],λh0=>absurd (z.symm.trans h0) c1⟩
  have aJ:=cU z;have aK:=cU c1;clear A z c1 j;go_wp2;have aB:=cT aA;exact Tj (v := Wb #[Wc #[J U 0 0,J U 0 0,J U 0 0],V9 U,Z Y ea]) (by simp[results,results22,go_sem,aB]) O (cT ae _)
end Ru
section
theorem pread(g p:V8)(w:V5)(j:Lib.Utf8Tabs 3 4 w)(l:lL w):V7 prog 22 #[H g,H p] w (zL g p w):=by
 refine(Ru.Bj g p w j l).mono ?_;rintro e V ⟨m,r,u,y,z,A,C,F,G,I,K,L,M,P⟩;refine⟨m,r,u,y,z,A,C,F,G,I,K,L,M,λQ=>?_⟩;obtain⟨a,b,c,d,f,B,R,T⟩:=P Q;exact⟨a,b,c,d,f,B,R,T.SU⟩
end
theorem QQ(a:Int)(q:Option Addr)(m k:Nat)(b:Int)(w:V5):V7 prog 27 #[Wc #[Z Y a,J q m k,Z Y b]] w λe l=>e=Wd (Wb #[])/\V4 w l:=by
 have r:V4 w (w.alloc (D #[Z Y a,J q m k,Z Y b] 80)):=V3.alloc V2 _;generalize u:(λ(e:Ending) (l:V5)=>e=Ending.returned (Value.tuple #[])/\V4 w l)=O;have j:Hid (O (Wd (Wb #[])) (w.alloc (D #[Z Y a,J q m k,Z Y b] 80))):=by
  show O _ _
  rw[<-u];exact⟨rfl,r⟩
 clear u r;go_enter func27,ntmps27;go_wp2
 first|exact cT j|exact Tj (v := Wb #[]) (by simp[results,results27,go_sem]) rfl (cT j)
def zj(g p:V8)(cZ:Int)(w:V5)(e:Ending)(w':V5):Prop:=V4 w w'/\Small g/\∃v,e=Wd (Wb #[Wc #[Z .u8 (fL g p cZ).outcome,Z Y (fL g p cZ).step,Z Y (fL g p cZ).dG,v],Z Y (j5 g p cZ)])/\w'.ownsRow (N (E w)) 2 1 v (fL g p cZ).dJ.length ((fL g p cZ).dJ.map (Z Y))
theorem Kg{g p:V8}{cZ:Int}{w w':V5}{a:Int}(h:j5 g p cZ=a)(ha:a≠0)(hb:V4 w w')(e:Small g):zj g p cZ w (Wd (Wb #[Wc #[Z .u8 0,Z Y 0,Z Y 0,J U 0 0],Z Y a])) w':=by
 have b:fL g p cZ=⟨0,0,0,[]⟩:=by unfold fL;rw[Tf (by rw[h];exact ha)]
 exact⟨hb,e,J U 0 0,by rw[b,h];rfl,by rw[b];exact TH _ _ _ _⟩
theorem IQ{w:V5}{B n:Nat}{sl:V6}{P:Sp.Pg}{e:List Int}(l:Wn e=n)(h:w.ownsRow B 104 4 sl n (jk e [] [] (List.replicate n (Sp.eT P.pq)) n)):∃p b,sl=J p n b/\kA w p (Sp.fX P e) n:=by
 obtain⟨p,b,m,r⟩:=gV (all:=Sp.eT P.al) h;refine⟨p,b,m,r.congr (λk _=>O) (λk j=>?_) (λk j=>?_) (λk j=>?_)⟩
 .show (List.replicate (Wn e) Wg).getD k Wg=_
  rw[Ty,List.getElem?_replicate,Tg (by omega)];rfl
 .show (List.replicate (Wn e) (0:Int)).getD k 0=_
  rw[Ty,List.getElem?_replicate,Tg (by omega)];rfl
 .show (List.replicate (Wn e) (Sp.eT P.pq)).getD k 0=_
  rw[l]
theorem Jz(g p:V8)(cZ:Int)(z f:Addr)(w:V5)(hT:Lib.Utf8Tabs 3 4 w)(hC:lL w)(aH:j6 w z f):V7 prog 8 #[H g,H p,Z Y cZ] w (zj g p cZ w):=by
 generalize hO:zj g p cZ w=l;replace hO:=cU hO;have av:V4 w (w.alloc (D #[Z .u8 0,Z Y 0,Z Y 0,J U 0 0] 32)):=V3.alloc V2 _;have aI:=Tk w (D #[Z .u8 0,Z Y 0,Z Y 0,J U 0 0] 32);have bw:=TK w (D #[Z .u8 0,Z Y 0,Z Y 0,J U 0 0] 32);have ba:=cU (λW (hb:V4 w W)=>pread g p W (eN hT hb) (hC.below hb));have bc:=cU aH;clear hT hC aH;go_enter func8,ntmps8;go_wp2_with fail;generalize hW:Wl _ _=W0 at *;refine(cT ba W0 av).mono ?_;rintro e C ⟨aa,aJ,p0,n0,k0,p1,n1,k1,p2,n2,k2,pv,rfl,aK⟩;have ab:=cU aJ;have bd:=cU aK;obtain⟨ra,P⟩:∃ra,Hid (iL g p=ra):=⟨_,rfl⟩
 rw[cT P];have G:V4 w C:=av.trans (aa.mono av.size);have y:=(aa.block (N (E w)) (by omega)).trans aI;have bx:=aa.size;have bg:N (E w)<N (E C):=by omega
 have r0:C.cell? ⟨N (E w),0,U⟩=S (Z .u8 0):=(by simp[Wj,y])
 have aL:C.frozen? ⟨N (E w),0,U⟩=Wg:=(by simp[World.frozen?,y])
 have r1:C.cell? ⟨N (E w),1,U⟩=S (Z Y 0):=(by simp[Wj,y])
 have aM:C.frozen? ⟨N (E w),1,U⟩=Wg:=(by simp[World.frozen?,y])
 have r2:C.cell? ⟨N (E w),2,U⟩=S (Z Y 0):=(by simp[Wj,y])
 have aN:C.frozen? ⟨N (E w),2,U⟩=Wg:=(by simp[World.frozen?,y])
 have r3:C.cell? ⟨N (E w),3,U⟩=S (J U 0 0):=(by simp[Wj,y])
 have aO:C.frozen? ⟨N (E w),3,U⟩=Wg:=(by simp[World.frozen?,y])
 have ad:=cU (λo i'=>BE (xA y (Z .u8 0) (Z Y 0) (Z Y 0) (J U 0 0)) o i');unfold j9 at ad;have aw:Hid (∀o,V4 w ((j9 C (N (E w)) (Z .u8 0) (Z Y 0) (Z Y 0) (J U 0 0)).alloc o)):=λo=>by have h:=tM G (Te (N (E w))) (Z .u8 0) (Z Y 0) (Z Y 0) (J U 0 0);exact h.alloc h.size o
 clear hW aI aa aJ aK;by_cases c1:ra=0
 .subst c1;by_cases c2:0<=cZ/\cZ<=200
  .obtain⟨m1,m2,m3,aP,aQ,B,rfl,ak⟩:=cT bd (cT P);subst m1 m2 m3;have Q:yt g=0/\(Sp.comp p).1=0:=by
    have h:=cT P;unfold iL at h;by_cases c:yt g≠0
    .rw[Tg c] at h;exact absurd h c
    .rw[Tf c] at h;exact⟨by simpa using c,h⟩
   obtain⟨r,rfl⟩:∃r:Nat,cZ=(r:Int):=⟨cZ.toNat,by omega⟩
   have aR:r<=200:=by omega
   have an:Hid (j5 g p (r:Int)=0):=by
    show _=_
    unfold j5;rw[Tf (by rw[Q.1];simp),Tf (by rw[Q.2];simp),Tf (by omega)]
   obtain⟨R,aS⟩:=qG Q.1 Q.2 (cT ab);have ax:=cU R;have T:=cU ak;have aT:=cU aP;obtain⟨n,HN⟩:∃n,Hid ((jl g).length=n):=⟨_,rfl⟩
   have ao:Hid (Sp.Cu (Sp.ir p) (pP g) r (r+1) 0 (Sp.fX (Sp.ir p) (jl g))=fL g p (r:Int)):=by
    show _=_
    unfold fL;rw[Tg (cT an)]
    rfl
   have aU:Hid (Sp.eY n (Sp.fX (Sp.ir p) (jl g))):=by have h:=Sp.qU (Sp.ir p) (jl g) aS;rw[cT HN] at h;exact h
   have ae:=cU (λW (hb:V4 C W)=>LS p0 (jl g).length k0 p1 k1 p2 k2 B r (pP g) W (aQ.below hb) R.FW R.es (λx hx=>(R.ed x hx).1));rw[cT HN] at ae ax ⊢;have aV:n<=64:=(cT ax).FW;obtain⟨ne,bh⟩:∃ne,Hid ((pP g).length=ne):=⟨_,rfl⟩
   rw[cT bh] at ae ⊢;have l1:(0:Int)<=(r:Int):=TS _;have l2:(r:Int)<=200:=by omega
   have ay:Hid (∀W,V7 prog 23 #[Z Y (r:Int),Z Y 0,Z Y 200] W λe w'=>e=Wd (Wa We)/\w'=W):=by
    show ∀W,_
    intro W;have h:=yo (r:Int) 0 200 W;rw[TU l1,TU l2] at h;exact h
   clear R aS Q ak aP aQ c2 l1 l2;have aq:=cU y;clear r0 r1 r2 r3 aL aM aN aO ad aw y;go_wp2_with (go_at_call 23;go_must (refine(cT ay _).mono ?_);rintro e wq ⟨rfl,az⟩;obtain rfl:=az.symm);generalize aW:Wl _ _=W1;have af:V4 C W1:=by rw[<-aW];exact V3.alloc V2 _
   clear aW;refine(cT ae W1 af).mono ?_;rintro e w2 ⟨aX,pe,ke,rfl,aY⟩;have L:V4 C w2:=af.trans (aX.mono af.size);have bA:=L.size;have bj:=cU aY;unfold dY;clear ae aY aX af;go_upto_region 7 with fail;generalize aA:Wl _ _=K;have M:V4 w2 K:=by rw[<-aA];exact V3.alloc V2 _
   have aB:K.heap[N (E w2)]?=S (D (dY B p1 n k1 pe ke r) 75 (0,0)):=by rw[<-aA];exact Tk w2 _
   have ag:=(Ts.1 aB).1;obtain⟨j0,j1,j2,j3⟩:=fQ aB;have A:V4 C K:=L.trans (M.mono L.size);have ar:V4 w K:=G.trans (A.mono G.size);have bk:=cU ((A.block (N (E w)) bg).trans (cT aq));have bn:N (E w)<N (E K):=by have:=A.size;omega
   have aC:Hid (∀W,V4 K W->V7 prog 26 #[Wc #[V9 (S ⟨B,0,U⟩),J p1 n k1,J pe n ke,Z Y r]] W (A3 (Sp.ir p) (jl g) n W)):=λW hW=>by
    have h1:=A.trans (hW.mono A.size);exact Lh B p1 n k1 pe ke r (Sp.ir p) (jl g) W ((cT T).below h1) ((cT aT).below h1) (cT HN) aV
   have ah:Hid (∀(W:V5) (pp:Option Addr) (kk:Nat),V4 K W->kA W pp (Sp.fX (Sp.ir p) (jl g)) n->V7 prog 25 #[Wc #[V9 (S ⟨B,0,U⟩),J p1 n k1,J pe n ke,Z Y r],Wc #[Z Y 0,J pp n kk,Z Y (Sp.eT (Sp.ir p).al)],.func (.func 27) #[] #[]] W (vA (fL g p (r:Int)) W)):=λW pp kk hW ai=>by
    have h1:=A.trans (hW.mono A.size);exact prun B p1 n k1 pe ke r (Sp.ir p) (pP g) pp kk (Sp.fX (Sp.ir p) (jl g)) z f 27 (fL g p (r:Int)) W ((cT T).below h1) ((cT bc).below (G.trans (h1.mono G.size))) ((cT bj).below (M.trans (hW.mono M.size))) ai (cT aU) (cT ax) aR (cT ao) (da func27 (by kernel_rfl) (by kernel_rfl)) (λa q m k b W=>QQ a q m k b W)
   have aZ:Hid (∀(args:Array V6) (w:V5),(callFunc 26 args).run prog w=.ok (.enter 26 args) w):=da func26 (by kernel_rfl) (by kernel_rfl);have a1:Hid (∀(args:Array V6) (w:V5),(callFunc 25 args).run prog w=.ok (.enter 25 args) w):=da func25 (by kernel_rfl) (by kernel_rfl);have a6:Hid (∀(wq:V5) (v:V6) (Bq:Nat),V4 K wq->wq.ownsRow Bq 2 1 v (fL g p (r:Int)).dJ.length ((fL g p (r:Int)).dJ.map (Z Y))->N (E K)<=Bq->zj g p (r:Int) w (Wd (Wb #[Wc #[Z .u8 (fL g p (r:Int)).outcome,Z Y (fL g p (r:Int)).step,Z Y (fL g p (r:Int)).dG,v],Z Y 0])) (j9 wq (N (E w)) (Z .u8 (fL g p (r:Int)).outcome) (Z Y (fL g p (r:Int)).step) (Z Y (fL g p (r:Int)).dG) v)):=λwq v Bq I X bB=>by
    have h1:=ar.trans (I.mono ar.size);refine⟨tM h1 V2 _ _ _ _,cT ab,v,by rw[cT an],?_⟩;have o':∀{W:V5} (j:Nat) (u:V6),W.ownsRow Bq 2 1 v (fL g p (r:Int)).dJ.length ((fL g p (r:Int)).dJ.map (Z Y))->(W.setCell ⟨N (E w),j,U⟩ u).ownsRow Bq 2 1 v (fL g p (r:Int)).dJ.length ((fL g p (r:Int)).dJ.map (Z Y)):=λj u h=>TA h (a:=⟨N (E w),j,U⟩) (by show (N (E w))<Bq;omega) u
    exact fB (o' 3 _ (o' 2 _ (o' 1 _ (o' 0 _ X)))) (by omega)
   obtain⟨na,bo⟩:∃na,Hid (Sp.eT (Sp.ir p).al=na):=⟨_,rfl⟩
   unfold A3 at aC;unfold vA at ah;rw[cT bo] at aC ah;generalize fL g p (r:Int)=res at *;obtain⟨oc,st,vt,V⟩:=res;simp only at ah a6;clear aA L M aB T aT ao aU aq
   go_region_law (first
   |(refine du (by rfl) _ _ _ (by rfl) 26 (by rfl) _ (by rfl) (cT aZ) (cT aC _ (by first|exact Th _ _|exact V3.drew)) ?_;rintro e wq ⟨t,sl,rfl,a7⟩;obtain⟨pp,kk,bp,ai⟩:=IQ (cT HN) a7;subst bp;dsimp only;have I:V4 K wq:=(by first|exact t|exact V3.drew.trans (t.mono V2));have aj:=cU I;have bq:=cU ai;have i0:=(I.cell (p:=⟨N (E w2),0,U⟩) ag).trans j0;have i1:=(I.cell (p:=⟨N (E w2),1,U⟩) ag).trans j1;have i2:=(I.cell (p:=⟨N (E w2),2,U⟩) ag).trans j2;have i3:=(I.cell (p:=⟨N (E w2),3,U⟩) ag).trans j3;clear I t a7 ai)
   |(refine du (by rfl) _ _ _ (by rfl) 25 (by rfl) _ (by rfl) (cT a1) (cT ah wq pp kk (cT aj) (cT bq)) ?_;rintro e wr ⟨au,v,rfl,X⟩;obtain⟨aD,aE,a8,_⟩:=dm X;subst a8;dsimp only;have aF:V4 K wr:=(cT aj).trans (au.mono (cT aj).size);have F:=(aF.block (N (E w)) bn).trans (cT bk);have r0:wr.cell? ⟨N (E w),0,U⟩=S (Z .u8 0):=(by simp[Wj,F]);have aL:wr.frozen? ⟨N (E w),0,U⟩=Wg:=(by simp[World.frozen?,F]);have r1:wr.cell? ⟨N (E w),1,U⟩=S (Z Y 0):=(by simp[Wj,F]);have aM:wr.frozen? ⟨N (E w),1,U⟩=Wg:=(by simp[World.frozen?,F]);have r2:wr.cell? ⟨N (E w),2,U⟩=S (Z Y 0):=(by simp[Wj,F]);have aN:wr.frozen? ⟨N (E w),2,U⟩=Wg:=(by simp[World.frozen?,F]);have r3:wr.cell? ⟨N (E w),3,U⟩=S (J U 0 0):=(by simp[Wj,F]);have aO:wr.frozen? ⟨N (E w),3,U⟩=Wg:=(by simp[World.frozen?,F]);have br:=cU aF;have bs:=cU X;clear aF au X F))
   all_goals
    have s:Hid (l (Wd (Wb #[Wc #[Z .u8 oc,Z Y st,Z Y vt,J aD (Wn V) aE],Z Y 0])) (j9 wr (N (E w)) (Z .u8 oc) (Z Y st) (Z Y vt) (J aD (Wn V) aE))):=by
     show l _ _
     rw[<-cT hO];exact cT a6 wr _ _ (cT br) (cT bs) (cT aj).size
    first
     | (go_wp2;exact Tj (v := Wb #[Wc #[Z .u8 oc,Z Y st,Z Y vt,J aD (Wn V) aE],Z Y 0]) (by simp[results,results8,go_sem,r0,r1,r2,r3]) O (cT s))
     |trace_state
  .have HE:Hid (j5 g p cZ=8):=by
    show _=_
    have h:=cT P;unfold iL at h;unfold j5;by_cases c:yt g≠0
    .rw[Tg c] at h;exact absurd h c
    .rw[Tf c] at h ⊢;rw[Tf (by rw[h];simp),Tg (by omega)]
   have ay:Hid (∀W,V7 prog 23 #[Z Y cZ,Z Y 0,Z Y 200] W λe w'=>e=Wd (Wa Wg)/\w'=W):=by
    show ∀W,_
    intro W;have h:=yo cZ 0 200 W;have hf:(decide (0<=cZ)&&decide (cZ<=200))=Wg:=by
     by_cases l1:0<=cZ
     .rw[TU l1,TE (λl2=>c2 ⟨l1,l2⟩)];rfl
     .rw[TE l1];rfl
    rw[hf] at h;exact h
   have s:Hid (∀o,l (Wd (Wb #[Wc #[Z .u8 0,Z Y 0,Z Y 0,J U 0 0],Z Y 8])) ((j9 C (N (E w)) (Z .u8 0) (Z Y 0) (Z Y 0) (J U 0 0)).alloc o)):=by
    show ∀o,_
    intro o;rw[<-cT hO];exact Kg (cT HE) (by decide) (cT aw o) (cT ab)
   clear c2 y;go_wp2_with (go_at_call 23;go_must (refine(cT ay _).mono ?_);rintro e wq ⟨rfl,az⟩;obtain rfl:=az.symm);have aG:=cT ad;exact Tj (v := Wb #[Wc #[Z .u8 0,Z Y 0,Z Y 0,J U 0 0],Z Y 8]) (by simp[results,results8,go_sem,aG]) O (cT s _)
 .have bC:(ra != 0)=We:=by rw[UZ];exact c1
  have HE:Hid (j5 g p cZ=ra):=by
   show _=_
   have h:=cT P;unfold iL at h;unfold j5;by_cases c:yt g≠0
   .rw[Tg c] at h ⊢;exact h
   .rw[Tf c] at h ⊢;rw[Tg (by rw[h];exact c1)];exact h
  have bu:=cU c1;have s:Hid (∀o,l (Wd (Wb #[Wc #[Z .u8 0,Z Y 0,Z Y 0,J U 0 0],Z Y ra])) ((j9 C (N (E w)) (Z .u8 0) (Z Y 0) (Z Y 0) (J U 0 0)).alloc o)):=by
   show ∀o,_
   intro o;rw[<-cT hO];exact Kg (cT HE) (cT bu) (cT aw o) (cT ab)
  clear c1 y;go_wp2;have aG:=cT ad;exact Tj (v := Wb #[Wc #[Z .u8 0,Z Y 0,Z Y 0,J U 0 0],Z Y ra]) (by simp[results,results8,go_sem,aG]) O (cT s _)
end Go.Proofs.YtgkkdpegcieakaaGreatDoor
