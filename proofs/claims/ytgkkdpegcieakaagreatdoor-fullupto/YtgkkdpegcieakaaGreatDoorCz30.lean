import Derived.Test.YtgkkdpegcieakaaGreatDoorCz29
import Derived.Test.YtgkkdpegcieakaaGreatDoorCz26
set_option linter.unusedVariables false
set_option linter.unusedSimpArgs false
set_option maxRecDepth 100000
set_option maxHeartbeats 16000000
namespace Go.Proofs.YtgkkdpegcieakaaGreatDoor
open Go.Proofs.Tryz
open Value renaming int→Z
open IntKind renaming i64→Y
open Go renaming World→TJ,Value→TK,Calls→TL
section
open Go.RowKit
def zX(P:Sp.Pg)(b:List Int)(n:Nat)(w:TJ)(e:Ending)(w':TJ):Prop:=TI w w'/\∃sl,e=.returned (.agg #[Z Y 0,sl,Z Y (Sp.eN P.al)])/\w'.ownsRow w.heap.size 104 4 sl n (jm b [] [] (List.replicate n (Sp.eN P.pK)) n)
theorem GW(B:Nat)(pf:Option Addr)(n kf:Nat)(pe:Option Addr)(ke cT:Nat)(P:Sp.Pg)(j:List Int)(w:TJ)(hp:jJ w B P)(hv:fF w Y pf j)(hl:j.length=n)(hn:n<=64):TL prog 26 #[.agg (dW B pf n kf pe ke cT)] w (zX P j n w):=by
 obtain⟨t2,V,W,X,s⟩:=fa info_vertex;generalize o:zX P j n w=O;replace o:=cP o;have HP:=cP hp;have HV:=cP hv;have HL:=cP hl;have D:=cP (pJ w (dW B pf n kf pe ke cT) #[Z Y 0,.slice none 0 0,Z Y 0] 75 80);clear hp hv hl;unfold dW at *;go_enter func26,ntmps26;go_wp2_with fail;generalize hW:World.alloc (World.alloc _ _) _=W0;obtain⟨E,F,aa,G⟩:=cO D W0 hW.symm;have ab:=cP E;have ad:=cP F;have ae:=cP G;clear hW D E F G
 go_loopw [3,9] (λvv i wr=>∃(k:Nat) (v:TK),k<=n/\i=Z Y k/\vv=v/\Hid (wr.ownsRow (w.heap.size+1+1) 104 4 v k (jm j [] [] [] k))/\Below (w.heap.size+1+1) W0 wr) (λ_ i _=>n-(intOf i).toNat)
 case atStart=>exact⟨0,_,cy _,rfl,rfl,fc _ _ _ _,cj _ _⟩
 case round =>
  obtain⟨k,v,hk,rfl,H,HR,I⟩:=hrel;obtain rfl:=H.symm;clear H;have y:TI w wr:=aa.trans (I.mono (by omega));have af:w.heap.size+1+1<=wr.heap.size:=by have:=I.size;have:=cO ae;omega
  by_cases ag:k<n
  .have J:(k:Int)<(n:Int):=by omega
   have g0:(0:Int)<=(k:Int):=iJ _;have K:k<j.length:=by rw[cO HL];exact ag
   obtain⟨g,rfl,hg,d0⟩:=((cO HV).below y) k K;have ah:Hid (jm j [] [] [] (k+1)=jm j [] [] [] k++[Z Y j[k],.bool false,Z Y 0,Z Y 0]):=by
    show _=_
    rw[mo,cL (l:=j),cH K];rfl
   generalize j[k]=x0 at *;have hr:=cO HR;go_wp2_with (first
    | (at_builtin;go_must (refine wpList_append_lies _ rfl (.tmp 13) (.tmp 16) 78 rfl (w.heap.size+1+1) 104 t2 _ 4 32 underlying78 V W X s rfl (by omega) v _ _ rfl (hr.alloc _) ⟨wr.heap.size,0,none⟩ 1 1 [Z Y x0,.bool false,Z Y 0,Z Y 0] rfl rfl (Rh (cs := #[Z Y x0,.bool false,Z Y 0,Z Y 0]) (t:=104) (fr:=(0,0)) (ct wr _)) (by simp[Value.oneCell']) (by omega) (by unfold maxLen;omega) (by omega) (by simp;omega) (wr.heap.size+1) (by simp) ?_;intro g2 ai m z r aj L))
    |go_in)
   have u:Below (w.heap.size+1+1) W0 m:=(I.alloc af _).grown r (by simp;omega) (λq hq=>(hr.lt q hq).1);have ak:Hid (m.ownsRow (w.heap.size+1+1) 104 4 (.slice (some ⟨g2,0,none⟩) (k+1) ai) (k+1) (jm j [] [] [] (k+1))):=by
    show World.ownsRow _ _ _ _ _ _ _
    rw[cO ah];exact z
   clear z r aj L hr;go_wp2;go_roundw
   case rel=>exact⟨k+1,_,by omega,by go_num,rfl,ak,u⟩
   case measure=>simp[intOf];omega
  .obtain rfl:k=n:=by omega
   have J:¬(k:Int)<(k:Int):=by omega
   obtain⟨p,an,rfl,M⟩:=gS (all:=0) (cO HR);have HU:=cP (D6 B pf k kf pe ke cT 0 p k an P ⟨j,[],[],[],0⟩ wr ((cO HP).below y) M hn);have N:wr.heap[w.heap.size]?=_:=(I.block _ (by omega)).trans (cO ab);have j0:wr.cell? ⟨w.heap.size,0,none⟩=some (.pointer (some ⟨B,0,none⟩)):=by simp[World.cell?,N]
   have j1:wr.cell? ⟨w.heap.size,1,none⟩=some (.slice pf k kf):=by simp[World.cell?,N]
   have j2:wr.cell? ⟨w.heap.size,2,none⟩=some (.slice pe k ke):=by simp[World.cell?,N]
   have j3:wr.cell? ⟨w.heap.size,3,none⟩=some (Z Y cT):=by simp[World.cell?,N]
   have hR:wr.heap[w.heap.size+1]?=_:=(I.block _ (by omega)).trans (cO ad);have Q:=cP hR;clear N hR M;unfold dW at HU;go_wp2_with fail;refine(cO HU).mono ?_;rintro e m ⟨u,sl,rfl,A⟩;have b:m.heap[w.heap.size+1]?=_:=(u.block _ (by omega)).trans (cO Q);have r0:m.cell? ⟨w.heap.size+1,0,none⟩=some (Z Y 0):=by simp[World.cell?,b]
   have r1:m.cell? ⟨w.heap.size+1,1,none⟩=some (.slice none 0 0):=by simp[World.cell?,b]
   have r2:m.cell? ⟨w.heap.size+1,2,none⟩=some (Z Y 0):=by simp[World.cell?,b]
   have aq:m.frozen? ⟨w.heap.size+1,0,none⟩=false:=by simp[World.frozen?,b]
   have ar:m.frozen? ⟨w.heap.size+1,1,none⟩=false:=by simp[World.frozen?,b]
   have au:m.frozen? ⟨w.heap.size+1,2,none⟩=false:=by simp[World.frozen?,b]
   obtain⟨T,U,e0,_⟩:=dd A;subst e0;obtain⟨C,S⟩:∃C,Hid (Sp.eN P.al=C):=⟨_,rfl⟩
   rw[cO S];have ao:Hid (O (.returned (.agg #[Z Y 0,.slice T k U,Z Y C])) (fL m (w.heap.size+1) (Z Y 0) (.slice T k U) (Z Y C))):=by
    have h1:=fA (pM A (R:=w.heap.size+1) (by omega) (Z Y 0) (.slice T k U) (Z Y C)) (B:=w.heap.size) (by omega)
    show O _ _
    rw[<-cO o];exact⟨mN (y.trans (u.mono y.size)) (by omega) _ _ _,_,by rw[cO S],h1⟩
   clear b A u Q HU;go_wp2;exact cr (v := .agg #[Z Y 0,.slice T k U,Z Y C]) (by simp[results,results26,go_sem,r0,r1,r2]) rfl (cO ao)
end
section
open Go.RowKit
structure Gm (w:TJ) (C B:Nat) (p:Option Addr) (cap n:Nat) (step all:Int) (V:List Int) (R:List Bool) (G I:List Int):Prop where
 c0:w.cell? ⟨C,0,none⟩=some (Z Y step)
 c1:w.cell? ⟨C,1,none⟩=some (.slice p n cap)
 c2:w.cell? ⟨C,2,none⟩=some (Z Y all)
 fz:∀j,w.frozen? ⟨C,j,none⟩=false
 o:w.ownsRow B 104 4 (.slice p n cap) n (jm V R G I n)
 ne:(Value.slice p n cap).ownBlock≠some C
theorem Gm.lt{w:TJ}{C B cap n:Nat}{p:Option Addr}{step all:Int}{V:List Int}{R:List Bool}{G I:List Int}(h:Gm w C B p cap n step all V R G I):C<w.heap.size:=cE w _ h.c0
theorem Gm.below{w w':TJ}{C B cap n:Nat}{p:Option Addr}{step all:Int}{V:List Int}{R:List Bool}{G I:List Int}(h:Gm w C B p cap n step all V R G I)(hb:TI w w'):Gm w' C B p cap n step all V R G I:=⟨(hb.cell (p:=⟨C,0,none⟩) h.lt).trans h.c0,(hb.cell (p:=⟨C,1,none⟩) h.lt).trans h.c1,(hb.cell (p:=⟨C,2,none⟩) h.lt).trans h.c2,λj=>(hb.frozen (p:=⟨C,j,none⟩) h.lt).trans (h.fz j),cW h.o hb,h.ne⟩
theorem Gm.Ry{w:TJ}{C B g cap n:Nat}{step all:Int}{V:List Int}{R:List Bool}{G I:List Int}(h:Gm w C B (some ⟨g,0,none⟩) cap n step all V R G I):oS w C B g cap n step all V R G I:=⟨h.c0,h.c1,h.c2,h.fz,h.o,λe=>h.ne (by rw[e];rfl)⟩
theorem oS.Rm{w:TJ}{C B g cap n:Nat}{step all:Int}{V:List Int}{R:List Bool}{G I:List Int}(h:oS w C B g cap n step all V R G I):Gm w C B (some ⟨g,0,none⟩) cap n step all V R G I:=⟨h.c0,h.c1,h.c2,h.fz,h.o,λe=>by have b:some g=some C:=e;injection b with b;exact h.ne b⟩
theorem Gm.form{w:TJ}{C B cap n:Nat}{p:Option Addr}{step all:Int}{V:List Int}{R:List Bool}{G I:List Int}(h:Gm w C B p cap n step all V R G I)(b:0<n):∃g,p=some ⟨g,0,none⟩/\B<=g/\g<w.heap.size:=IA h.o rfl b
theorem Fx{V V':List Int}{R R':List Bool}{G G' I I':List Int}{n:Nat}(e:∀k,k<n->V.getD k 0=V'.getD k 0)(j:∀k,k<n->R.getD k false=R'.getD k false)(l:∀k,k<n->G.getD k 0=G'.getD k 0)(hi:∀k,k<n->I.getD k 0=I'.getD k 0):jm V R G I n=jm V' R' G' I' n:=by
 unfold jm;apply kC;intro m b;rw[KH] at b;rw[e m b,j m b,l m b,hi m b]
structure S2 (W0 wr:TJ) (C B:Nat) (p:Option Addr) (cap n:Nat) (P:Sp.Pg) (Es:List Sp.Ed) (c:Sp.Cfg) (step k:Nat) (a:Sp.Acc):Prop where
 st:Sp.lK P Es c step k=.ok a
 pc:Gm wr C B p cap n ((step:Int)+1) a.all (a.val++c.val.drop k) (a.fC++c.fC.drop k) ((List.range n).map (Sp.gZ a.dy)) ((List.range n).map (Sp.ij P a.dy))
 lL:Below B W0 wr
theorem S2.first{l m:TJ}{n:Nat}{P:Sp.Pg}{Es:List Sp.Ed}{c:Sp.Cfg}{step:Nat}{p:Option Addr}{cap:Nat}(A:c.val.length=n)(hb:TI l m)(u:m.ownsRow l.heap.size 104 4 (.slice p n cap) n (jm c.val c.fC [] (List.replicate n (Sp.eN P.pK)) n)):S2 l (m.alloc (.cells #[Z Y ((step:Int)+1),.slice p n cap,Z Y (Sp.eN P.al)] 80)) m.heap.size l.heap.size p cap n P Es c step 0 ⟨[],[],Sp.eN P.al,[]⟩:=by
 have b:=ct m (.cells #[Z Y ((step:Int)+1),.slice p n cap,Z Y (Sp.eN P.al)] 80);refine⟨rfl,⟨cn _ _ 0 _ _ (0,0) b,cn _ _ 1 _ _ (0,0) b,cn _ _ 2 _ _ (0,0) b,λj=>by unfold World.frozen?;rw[b];simp,?_,λe=>by have:=(u.lt _ e).2;omega⟩,hb.alloc hb.size _⟩;have y:=u.alloc (.cells #[Z Y ((step:Int)+1),.slice p n cap,Z Y (Sp.eN P.al)] 80);have z:=Fx (n:=n) (V:=c.val) (R:=c.fC) (G:=[]) (I:=List.replicate n (Sp.eN P.pK)) (V':=[]++c.val.drop 0) (R':=[]++c.fC.drop 0) (G':=(List.range n).map (Sp.gZ [])) (I':=(List.range n).map (Sp.ij P [])) (λk _=>rfl) (λk _=>rfl) (λk r=>by rw[Sp.jI _ r];rfl) (λk r=>by rw[Sp.jI _ r,cL,List.getElem?_replicate,cg r];rfl);rw[z] at y;exact y
namespace Sp
theorem vp{α : Type}(A l:List α)(d : α){k:Nat}(e:A.length=k)(b:k<l.length):A++l.drop k=A++[l.getD k d]++l.drop (k+1):=by
 rw[kp b,cL,cH b];simp
theorem set_drop{α : Type}(A l:List α)(x : α){k:Nat}(b:A.length=k)(j:k<l.length):(A++l.drop k).set k x=A++[x]++l.drop (k+1):=by
 have h:=FQ A (l.drop k) x (by intro e;have:=congrArg List.length e;simp at this;omega);rw[b] at h;rw[h,List.tail_drop]
theorem LY{P:Pg}{Es:List Ed}{c:Cfg}{i step:Nat}{t:Tn}(h:qA P Es c i step=some t)(e:t.dy≠[]):t.dy.map Prod.fst=(iG Es i).map (·.vo):=by
 unfold qA ia at h;split at h
 .cases h
 .split at h
  .cases h
  .split at h
   .cases h
   .rename_i j b;have l:t.dy=j:=by
     unfold nL at h;split at h
     .cases h
     .split at h
      .cases h
      .injection h with h;subst h;rfl
    rw[l] at e ⊢;split at b
    .injection b with b;exact absurd b.symm e
    .exact DK b
end Sp
theorem S2.skip{b wr w':TJ}{C B:Nat}{p:Option Addr}{cap n:Nat}{P:Sp.Pg}{Es:List Sp.Ed}{c:Sp.Cfg}{step k:Nat}{a:Sp.Acc}(h:S2 b wr C B p cap n P Es c step k a)(e:Sp.Ba n k a)(j:Sp.eT n c)(l:k<n)(r:Sp.mO c k step=false)(hb:TI wr w')(u:B<=wr.heap.size):S2 b w' C B p cap n P Es c step (k+1) ⟨a.val++[c.val.getD k 0],a.fC++[c.fC.getD k false],a.all,a.dy⟩:=by
 refine⟨Sp.SE h.st r,?_,h.lL.trans (hb.mono u)⟩;have m:=h.pc.below hb;rw[Sp.vp a.val c.val 0 e.lv (by rw[j.lv];exact l),Sp.vp a.fC c.fC false e.lr (by rw[j.lr];exact l)] at m;exact m
theorem S2.qA{e w':TJ}{C B g:Nat}{cap n:Nat}{P:Sp.Pg}{Es:List Sp.Ed}{c:Sp.Cfg}{step k:Nat}{a:Sp.Acc}{t:Sp.Tn}(b:Sp.lK P Es c step k=.ok a)(j:Sp.Ba n k a)(l:Sp.eT n c)(m:k<n)(u:Sp.mO c k step=true)(ht:Sp.qA P Es c k step=some t)(h:oS w' C B g cap n ((step:Int)+1) (Sp.jn P.al a.all t.lI) ((a.val++c.val.drop k).set k t.value) ((a.fC++c.fC.drop k).set k t.gx) ((List.range n).map (Sp.gZ (a.dy++t.dy))) ((List.range n).map (Sp.ij P (a.dy++t.dy))))(hb:Below B e w'):S2 e w' C B (some ⟨g,0,none⟩) cap n P Es c step (k+1) ⟨a.val++[t.value],a.fC++[t.gx],Sp.jn P.al a.all t.lI,a.dy++t.dy⟩:=by
 refine⟨Sp.J7 b u ht,?_,hb⟩;have r:=h.Rm;rw[Sp.set_drop a.val c.val t.value j.lv (by rw[l.lv];exact m),Sp.set_drop a.fC c.fC t.gx j.lr (by rw[l.lr];exact m)] at r;exact r
def Jw(o:Except Nat Sp.Acc)(P:Sp.Pg)(n:Nat)(step:Nat)(w:TJ)(e:Ending)(w':TJ):Prop:=TI w w'/\match o with
  |.ok a=>∃sl,e=.returned (.tuple #[.agg #[Z Y ((step:Int)+1),sl,Z Y a.all],Z Y 0,.bool true])/\w'.ownsRow w.heap.size 104 4 sl n (jm (Sp.fh P n a).val (Sp.fh P n a).fC (Sp.fh P n a).iK (Sp.fh P n a).je n)
  |.error i=>e=.returned (.tuple #[.agg #[Z Y 0,.slice none 0 0,Z Y 0],Z Y i,.bool false])
theorem FZ{P:Program}{c:Code}{Q:Exit->Act->TJ->Prop}{a:Act}{w:TJ}(R:TK->TK->TJ->Prop)(h:∃A:TK->TK->Act,c.wp P (td λx j b=>x=.normal/\∃u1 u2,j=A u1 u2/\R u1 u2 b) a w/\∀u1 u2 b,R u1 u2 b->Q .normal (A u1 u2) b):c.wp P Q a w:=by
 obtain⟨A,l,m⟩:=h;refine Code.wp_mono (λe a w h=>?_) l;obtain⟨rfl,u1,u2,rfl,r⟩:=lA _ _ _ h;exact m _ _ _ r
end
section
open Go.RowKit
theorem fJ{W:TJ}{J B:Nat}{pf:Option Addr}{n kf:Nat}{pe:Option Addr}{ke cT:Nat}{t:TypeId}(h:W.heap[J]?=some (.cells (dW B pf n kf pe ke cT) t (0,0))):W.cell? ⟨J,0,none⟩=some (.pointer (some ⟨B,0,none⟩))/\W.cell? ⟨J,1,none⟩=some (.slice pf n kf)/\W.cell? ⟨J,2,none⟩=some (.slice pe n ke)/\W.cell? ⟨J,3,none⟩=some (Z Y cT):=by
 unfold dW at h;exact⟨by simp[World.cell?,h],by simp[World.cell?,h],by simp[World.cell?,h],by simp[World.cell?,h]⟩
theorem dL{W:TJ}{K:Nat}{a b c:TK}{t:TypeId}(h:W.heap[K]?=some (.cells #[a,b,c] t (0,0))):W.cell? ⟨K,0,none⟩=some a/\W.cell? ⟨K,1,none⟩=some b/\W.cell? ⟨K,2,none⟩=some c/\∀j,W.frozen? ⟨K,j,none⟩=false:=⟨by simp[World.cell?,h],by simp[World.cell?,h],by simp[World.cell?,h],λj=>by simp[World.frozen?,h]⟩
theorem Ja(B:Nat)(pf:Option Addr)(n kf:Nat)(pe:Option Addr)(ke cT:Nat)(P:Sp.Pg)(Es:List Sp.Ed)(p:Option Addr)(cap step:Nat)(c:Sp.Cfg)(z f:Addr)(w:TJ)(hp:jJ w B P)(aR:kj w z f)(he:Gl w pe n Es)(hv:kl w p c n)(aS:Sp.eT n c)(hj:Sp.iN P Es n)(hs:step<=100000):TL prog 42 #[.agg (dW B pf n kf pe ke cT),gw step p n cap c.all] w (Jw (Sp.lK P Es c step n) P n step w):=by
 generalize hO:Jw (Sp.lK P Es c step n) P n step w=O;replace hO:=cP hO;have HP:=cP hp;have HR:=cP aR;have HE:=cP he;have HV:=cP hv;have L:=cP aS;have HJ:=cP hj;have an:=hj.FR;have aT:=cP (jy w (dW B pf n kf pe ke cT) #[Z Y (step:Int),.slice p n cap,Z Y c.all] #[Z Y 0,.slice none 0 0,Z Y 0] 75 80 80);have bA:IntKind.i64.wrap ((step:Int)+1)=(step:Int)+1:=by rw[fp];omega
 have HU:=cP (λW (hb:TI w W)=>D6 B pf n kf pe ke cT ((step:Int)+1) p n cap P c W (hp.below hb) (hv.below hb) an);clear hp aR he hv aS hj;unfold gw;unfold dW at *;go_enter func42,ntmps42;go_wp2_with fail;generalize S:World.alloc (World.alloc _ _) _=H;obtain⟨aU,aV,aW,ad,bX⟩:=cO aT H S.symm;have aX:=cP aU;have aD:=cP aV;have aY:=cP aW;clear S aT aU aV aW;refine(cO HU H ad).mono ?_;rintro e w1 ⟨ax,sl,rfl,aE⟩;obtain⟨pn,kn,I,_⟩:=dd aE;subst I;have aF:Hid (S2 H _ w1.heap.size H.heap.size pn kn n P Es c step 0 _):=S2.first (cO L).lv ax aE
 obtain⟨na,bB⟩:∃na,Hid (Sp.eN P.al=na):=⟨_,rfl⟩
 rw[cO bB] at aF ⊢;have aG:H.heap.size<=w1.heap.size:=ax.size;obtain⟨u0,u1,u2,u3⟩:=dL ((ax.block (w.heap.size+1) (by omega)).trans (cO aD));have aZ:w.heap.size+1<w1.heap.size:=by omega
 clear ax aE u3 HU bA;go_wp2_with fail
 go_loopw [23] (λi wr=>∃(k:Nat) (a:Sp.Acc),k<=n/\i=Z Y k/\Hid (S2 H wr w1.heap.size H.heap.size pn kn n P Es c step k a)) (λi _=>n-(intOf i).toNat)
 case atStart=>exact⟨0,_,cy _,rfl,aF⟩
 case round =>
  clear aF u0 u1 u2 aZ;obtain⟨C,hC⟩:∃C,w1.heap.size=C:=⟨_,rfl⟩
  rw[hC] at hrel aG ⊢;obtain⟨k,a,hk,rfl,HS⟩:=hrel;have ae:=(cO HS).lL;have bY:=ae.size;have a1:TI w wr:=ad.trans (ae.mono (by omega));have V:Hid (Sp.Ba n k a):=Sp.sq (cO HJ) lP (cO L) hs k hk a (cO HS).st;by_cases af:k<n
  .have a6:(k:Int)<(n:Int):=by omega
   have g0:(0:Int)<=(k:Int):=iJ _;obtain⟨gp,rfl,bZ,d0,d1,d2,d3⟩:=((cO HV).below a1) k af;obtain⟨u0,u1,u2,_⟩:=dL ((ae.block (w.heap.size+1) (by omega)).trans (cO aD));have aZ:w.heap.size+1<wr.heap.size:=by omega
   have ai:=cP (λW=>Dm step (some ⟨gp,0,none⟩) n cap c.all (c.val.getD k 0) (c.iK.getD k 0) (c.je.getD k 0) (c.fC.getD k false) W (by omega));have bC:Hid ((step == 0 || (!(c.fC.getD k false) || decide (0<c.iK.getD k 0)))=Sp.mO c k step):=rfl;rw[cO bC] at ai;obtain⟨aw,HW⟩:∃aw,Hid (Sp.mO c k step=aw):=⟨_,rfl⟩
   rw[cO HW] at ai;unfold gw at ai;obtain⟨E,ay⟩:∃E,Hid (Sp.zE c (Sp.iG Es k).length k step=E):=⟨_,rfl⟩
   have a7:Hid (mW (E.iM 0)=.agg #[Z Y (c.val.getD k 0),Z Y (c.je.getD k 0),Z Y (c.iK.getD k 0),Z Y (step:Int),Z Y (k:Int),Z Y ((Sp.iG Es k).length:Int),Z Y c.all,Z Y 0,Z Y 0]):=by show _=_;rw[<-cO ay];rfl
   have bD:Hid (Sp.qA P Es c k step=Sp.ia P E (Sp.iG Es k)):=by show _=_;rw[<-cO ay];rfl
   have a8:Hid (Sp.nk E/\E.vq=E.value):=by
    have h:=Sp.C7 (cO L) (deg:=(Sp.iG Es k).length) (i:=k) (step:=step) af (by have:=Sp.oE Es k;have:=(cO HJ).es;omega) an hs;rw[cO ay] at h;refine⟨h,?_⟩;rw[<-cO ay];rfl
   have ba:Hid (aw=false->∀r,TI wr r->S2 H r C H.heap.size pn kn n P Es c step (k+1) ⟨a.val++[c.val.getD k 0],a.fC++[c.fC.getD k false],a.all,a.dy⟩):=λha r hb=>(cO HS).skip (cO V) (cO L) af (by rw[cO HW];exact ha) hb ae.size
   generalize c.val.getD k 0=x0 at *;generalize c.fC.getD k false=x1 at *;generalize c.iK.getD k 0=x2 at *;generalize c.je.getD k 0=x3 at *;go_wp2_with fail;generalize aH:World.alloc _ _=V1;have az:TI wr V1:=by rw[<-aH];exact TH.alloc TG _
   have ah:V1.heap[wr.heap.size]?=some (.cells #[Z Y x0,.bool x1,Z Y x2,Z Y x3] 104 (0,0)):=by rw[<-aH];exact ct wr _
   clear aH d0 d1 d2 d3 u0 u1 u2;refine(cO ai V1).mono ?_;rintro e b ⟨rfl,aA⟩;have M:TI wr b:=az.trans (aA.mono az.size);have N:=(aA.block wr.heap.size (cB.1 ah).1).trans ah;cases aw with
   |false =>
    have ao:=cP (cO ba rfl b M);clear ai az ah aA M N;go_wp2;go_roundw
    case rel=>exact⟨k+1,_,by omega,by go_num,ao⟩
    case measure=>simp[intOf];omega
   |true =>
    have X:TI H b:=ae.trans (M.mono ae.size);have b0:=M.size;have b1:=(cB.1 N).1;have v0:b.cell? ⟨wr.heap.size,0,none⟩=some (Z Y x0):=by simp[World.cell?,N]
    have v2:b.cell? ⟨wr.heap.size,2,none⟩=some (Z Y x2):=by simp[World.cell?,N]
    have v3:b.cell? ⟨wr.heap.size,3,none⟩=some (Z Y x3):=by simp[World.cell?,N]
    obtain⟨u0,u1,u2,_⟩:=dL ((X.block (w.heap.size+1) (by omega)).trans (cO aD));obtain⟨j0,j1,j2,j3⟩:=fJ (B:=B) (pf:=pf) (n:=n) (kf:=kf) (pe:=pe) (ke:=ke) (cT:=cT) ((X.block w.heap.size (by omega)).trans (cO aX));have bc:TI w b:=ad.trans (X.mono (by omega));obtain⟨D,aj,ak,bd,hD,dc,bg⟩:=((cO HE).below bc) k af;have bh:=cP bg;rw[bd] at j2;have ao:Hid (Gm b C H.heap.size pn kn n ((step:Int)+1) a.all (a.val++c.val.drop k) (a.fC++c.fC.drop k) ((List.range n).map (Sp.gZ a.dy)) ((List.range n).map (Sp.ij P a.dy))):=(cO HS).pc.below M;have aI:(Sp.iG Es k).length<=256:=by have:=Sp.oE Es k;have:=(cO HJ).es;omega
    obtain⟨dl,aB⟩:∃dl,Hid ((Sp.iG Es k).length=dl):=⟨_,rfl⟩
    rw[cO aB] at dc a7 aI;have bW:C<b.heap.size:=(cO ao).lt;clear ai az ah aA M N bg bd j1 j3 u1 ba;go_upto_region 6 with fail;apply vj (λr=>r=(b.alloc (.cells #[Z Y x0,Z Y x3,Z Y x2,Z Y (step:Int),Z Y (k:Int),Z Y (dl:Int),Z Y c.all,Z Y 0,Z Y 0] 165)).drew);apply Exists.intro;apply And.intro
    case left =>
     go_region_held3 (λr=>r.cell? ⟨wr.heap.size,0,none⟩=some (Z Y x0)/\r.cell? ⟨wr.heap.size,2,none⟩=some (Z Y x2)/\r.cell? ⟨wr.heap.size,3,none⟩=some (Z Y x3)/\r.cell? ⟨w.heap.size+1,0,none⟩=some (Z Y (step:Int))/\r.cell? ⟨w.heap.size+1,2,none⟩=some (Z Y c.all)/\r.cell? ⟨w.heap.size,2,none⟩=some (.slice (some ⟨D,0,none⟩) n ke)/\r.cell? ⟨D,k,none⟩=some (.slice aj dl ak))
      (first|(go_keep;done))
      (first|fail)
     exact⟨rfl,rfl,rfl⟩
    case right =>
    rintro w3 aJ;have s:TI b w3:=by rw[aJ];exact(TH.alloc TG _).drew
    have J:w3.heap[b.heap.size]?=some (.cells #[Z Y x0,Z Y x3,Z Y x2,Z Y (step:Int),Z Y (k:Int),Z Y (dl:Int),Z Y c.all,Z Y 0,Z Y 0] 165 (0,0)):=by rw[aJ];exact ct b _
    have I:=(cB.1 J).1;have s0:w3.cell? ⟨b.heap.size,0,none⟩=some (Z Y x0):=by simp[World.cell?,J]
    have s1:w3.cell? ⟨b.heap.size,1,none⟩=some (Z Y x3):=by simp[World.cell?,J]
    have s2:w3.cell? ⟨b.heap.size,2,none⟩=some (Z Y x2):=by simp[World.cell?,J]
    have s3:w3.cell? ⟨b.heap.size,3,none⟩=some (Z Y (step:Int)):=by simp[World.cell?,J]
    have s4:w3.cell? ⟨b.heap.size,4,none⟩=some (Z Y (k:Int)):=by simp[World.cell?,J]
    have s5:w3.cell? ⟨b.heap.size,5,none⟩=some (Z Y (dl:Int)):=by simp[World.cell?,J]
    have s6:w3.cell? ⟨b.heap.size,6,none⟩=some (Z Y c.all):=by simp[World.cell?,J]
    have s7:w3.cell? ⟨b.heap.size,7,none⟩=some (Z Y 0):=by simp[World.cell?,J]
    have s8:w3.cell? ⟨b.heap.size,8,none⟩=some (Z Y 0):=by simp[World.cell?,J]
    have aa:TI H w3:=X.trans (s.mono X.size);have aC:TI w w3:=ad.trans (aa.mono (by omega));have b2:=s.size;have aK:=cP ((cO ao).below s);have aL:=(s.cell (p:=⟨w.heap.size,0,none⟩) (by show w.heap.size<_;omega)).trans j0;have aM:=(s.cell (p:=⟨w.heap.size,2,none⟩) (by show w.heap.size<_;omega)).trans j2;have aN:=(s.cell (p:=⟨D,k,none⟩) hD).trans dc;have bj:=cP ((cO bh).below s);have bE:D<w3.heap.size:=by omega
    have bk:w.heap.size<w3.heap.size:=by omega
    have bn:Hid (∀W,TI w3 W->W.cell? ⟨w.heap.size,0,none⟩=some (.pointer (some ⟨B,0,none⟩))/\W.cell? ⟨w.heap.size,2,none⟩=some (.slice (some ⟨D,0,none⟩) n ke)/\W.cell? ⟨D,k,none⟩=some (.slice aj dl ak)/\W.cell? ⟨b.heap.size,0,none⟩=some (Z Y x0)/\W.cell? ⟨b.heap.size,1,none⟩=some (Z Y x3)/\W.cell? ⟨b.heap.size,2,none⟩=some (Z Y x2)/\W.cell? ⟨b.heap.size,3,none⟩=some (Z Y (step:Int))/\W.cell? ⟨b.heap.size,4,none⟩=some (Z Y (k:Int))/\W.cell? ⟨b.heap.size,5,none⟩=some (Z Y (dl:Int))/\W.cell? ⟨b.heap.size,6,none⟩=some (Z Y c.all)/\W.cell? ⟨b.heap.size,7,none⟩=some (Z Y 0)/\W.cell? ⟨b.heap.size,8,none⟩=some (Z Y 0)):=λW S=>⟨(S.cell (p:=⟨w.heap.size,0,none⟩) bk).trans aL,(S.cell (p:=⟨w.heap.size,2,none⟩) bk).trans aM,(S.cell (p:=⟨D,k,none⟩) bE).trans aN,(S.cell (p:=⟨b.heap.size,0,none⟩) I).trans s0,(S.cell (p:=⟨b.heap.size,1,none⟩) I).trans s1,(S.cell (p:=⟨b.heap.size,2,none⟩) I).trans s2,(S.cell (p:=⟨b.heap.size,3,none⟩) I).trans s3,(S.cell (p:=⟨b.heap.size,4,none⟩) I).trans s4,(S.cell (p:=⟨b.heap.size,5,none⟩) I).trans s5,(S.cell (p:=⟨b.heap.size,6,none⟩) I).trans s6,(S.cell (p:=⟨b.heap.size,7,none⟩) I).trans s7,(S.cell (p:=⟨b.heap.size,8,none⟩) I).trans s8⟩
    have aO:Hid (∀W,TI w3 W->TL prog 73 #[.pointer (some ⟨B,0,none⟩),.agg #[Z Y x0,Z Y x3,Z Y x2,Z Y (step:Int),Z Y (k:Int),Z Y (dl:Int),Z Y c.all,Z Y 0,Z Y 0],.slice aj dl ak] W (D0 (Sp.qA P Es c k step) W)):=by
     show ∀W,_
     intro W S;have bo:=aC.trans (S.mono aC.size);have h:=Ic B P E 0 (Sp.iG Es k) aj ak z f W ((cO HP).below bo) ((cO HR).below bo) (cO a8).1 (cO a8).2 ((cO bj).below S) (λx hx=>((cO HJ).ed x (FT.1 hx).1).2.2) (by have:=cO aB;omega);rw[cO a7,cO aB,<-cO bD] at h;exact h
    have b3:Hid (∀(args:Array TK) (w:TJ),(callFunc 73 args).run prog w=.ok (.enter 73 args) w):=cV func73 (by kernel_rfl) (by kernel_rfl);obtain⟨o,aq⟩:∃o,Hid (Sp.qA P Es c k step=o):=⟨_,rfl⟩
    rw[cO aq] at aO;clear aJ v0 v2 v3 u0 u2 j0 j2 dc ao J s bh;go_upto_region 7 with fail;cases o with
    |none =>
     apply uy (λu r=>Hid (TI w3 r));apply Exists.intro;apply And.intro
     case left =>
      go_region_held3 (λr=>r.cell? ⟨w.heap.size,0,none⟩=some (.pointer (some ⟨B,0,none⟩))/\r.cell? ⟨w.heap.size,2,none⟩=some (.slice (some ⟨D,0,none⟩) n ke)/\r.cell? ⟨D,k,none⟩=some (.slice aj dl ak)/\r.cell? ⟨b.heap.size,0,none⟩=some (Z Y x0)/\r.cell? ⟨b.heap.size,1,none⟩=some (Z Y x3)/\r.cell? ⟨b.heap.size,2,none⟩=some (Z Y x2)/\r.cell? ⟨b.heap.size,3,none⟩=some (Z Y (step:Int))/\r.cell? ⟨b.heap.size,4,none⟩=some (Z Y (k:Int))/\r.cell? ⟨b.heap.size,5,none⟩=some (Z Y (dl:Int))/\r.cell? ⟨b.heap.size,6,none⟩=some (Z Y c.all)/\r.cell? ⟨b.heap.size,7,none⟩=some (Z Y 0)/\r.cell? ⟨b.heap.size,8,none⟩=some (Z Y 0))
       (first|(exact cO bn _ (by first|assumption|exact TH.drew|exact TH.drew.alloc TG _|exact Q.alloc Q.size _|exact(((Q.setCell (p:=⟨w3.heap.size,0,none⟩) TG _).setCell (p:=⟨w3.heap.size,1,none⟩) TG _).setCell (p:=⟨w3.heap.size,2,none⟩) TG _).setCell (p:=⟨w3.heap.size,3,none⟩) TG _))|(go_keep;done))
       (first|(go_at_call 73;refine(cO aO _ (by first|exact cj _ _|exact TH.drew|exact TH.drew.alloc TG _|exact TH.alloc TG _)).mono ?_;rintro e G ⟨A,rfl⟩;have Q:TI w3 G:=(by first|exact TH.drew.trans (A.mono TG)|exact(TH.drew.alloc TG _).trans (A.mono (by simp))|exact A);have ag:=cP Q;try (have y:G.heap[w3.heap.size]?=some (.cells #[Z Y 0,.slice none 0 0,.bool false,Z Y 0] 167 (0,0)):=(A.block _ (by simp)).trans (ct w3.drew _);have bF:G.cell? ⟨w3.heap.size,0,none⟩=some (Z Y 0):=(by simp[World.cell?,y]);have bG:G.frozen? ⟨w3.heap.size,0,none⟩=false:=(by simp[World.frozen?,y]);have bH:G.cell? ⟨w3.heap.size,1,none⟩=some (.slice none 0 0):=(by simp[World.cell?,y]);have bI:G.frozen? ⟨w3.heap.size,1,none⟩=false:=(by simp[World.frozen?,y]);have bJ:G.cell? ⟨w3.heap.size,2,none⟩=some (.bool false):=(by simp[World.cell?,y]);have bK:G.frozen? ⟨w3.heap.size,2,none⟩=false:=(by simp[World.frozen?,y]);have bL:G.cell? ⟨w3.heap.size,3,none⟩=some (Z Y 0):=(by simp[World.cell?,y]);have bM:G.frozen? ⟨w3.heap.size,3,none⟩=false:=(by simp[World.frozen?,y]);have bp:=cP y;clear y);clear A))
      all_goals
       first
        | (have h1:=(cO ag).alloc (cO ag).size (.cells #[Z Y 0,.slice none 0 0,.bool false,Z Y 0] 167)
           generalize Value.pointer (some ⟨G.heap.size,0,none⟩)=u
           first
            |exact⟨rfl,u,rfl,h1⟩
            |exact⟨rfl,u,rfl,h1.drew⟩)
        | (have h1:=((((cO ag).setCell (p:=⟨w3.heap.size,0,none⟩) TG (Z Y 0)).setCell (p:=⟨w3.heap.size,1,none⟩) TG (.slice none 0 0)).setCell (p:=⟨w3.heap.size,2,none⟩) TG (.bool false)).setCell (p:=⟨w3.heap.size,3,none⟩) TG (Z Y 0)
           generalize Value.pointer (some ⟨w3.heap.size,0,none⟩)=u
           first
            |exact⟨rfl,u,rfl,h1⟩
            |exact⟨rfl,u,rfl,h1.drew⟩)
        |trace_state
     case right =>
     rintro u U ar;have bN:Hid (Sp.lK P Es c step n=.error k):=by
      have h:=Sp.Ma (n-(k+1)) (k+1) (Sp.Kt (cO HS).st (cO HW) (cO aq));rw[show k+1+(n-(k+1))=n by omega] at h;exact h
     have K:TI H U:=aa.trans ((cO ar).mono aa.size);have F:U.heap[w.heap.size+1+1]?=_:=(K.block (w.heap.size+1+1) (by omega)).trans (cO aY);have r0:U.cell? ⟨w.heap.size+1+1,0,none⟩=some (Z Y 0):=by simp[World.cell?,F]
     have bO:U.frozen? ⟨w.heap.size+1+1,0,none⟩=false:=by simp[World.frozen?,F]
     have r1:U.cell? ⟨w.heap.size+1+1,1,none⟩=some (.slice none 0 0):=by simp[World.cell?,F]
     have bP:U.frozen? ⟨w.heap.size+1+1,1,none⟩=false:=by simp[World.frozen?,F]
     have r2:U.cell? ⟨w.heap.size+1+1,2,none⟩=some (Z Y 0):=by simp[World.cell?,F]
     have bQ:U.frozen? ⟨w.heap.size+1+1,2,none⟩=false:=by simp[World.frozen?,F]
     have aP:Hid (O (.returned (.tuple #[.agg #[Z Y 0,.slice none 0 0,Z Y 0],Z Y k,.bool false])) (fL U (w.heap.size+1+1) (Z Y 0) (.slice none 0 0) (Z Y 0))):=by
      show O _ _
      rw[<-cO hO,cO bN];exact⟨mN (ad.trans (K.mono (by omega))) (by omega) _ _ _,rfl⟩
     clear s0 s1 s2 s3 s4 s5 s6 s7 s8 aL aM aN F;go_wp2;exact cr (v := .tuple #[.agg #[Z Y 0,.slice none 0 0,Z Y 0],Z Y k,.bool false]) (by simp[results,results42,go_sem,r0,r1,r2]) rfl (cO aP)
    |some t =>
     have bR:Hid (Sp.MR n t):=Sp.EC (cO HJ) lP (cO L) af hs (cO aq);obtain⟨m,HM⟩:∃m,Hid (t.dy.length=m):=⟨_,rfl⟩
     apply FZ (λv u r=>∃T,u=.pointer (some ⟨T,0,none⟩)/\Hid (r.heap[T]?=some (.cells #[Z Y t.value,v,.bool t.gx,Z Y t.lI] 167 (0,0)))/\Hid (r.ownsRow w3.heap.size 2 1 v t.dy.length (t.dy.map λm=>Z Y m.2))/\Hid (TI w3 r));apply Exists.intro;apply And.intro
     case left =>
      go_region_held3 (λr=>r.cell? ⟨w.heap.size,0,none⟩=some (.pointer (some ⟨B,0,none⟩))/\r.cell? ⟨w.heap.size,2,none⟩=some (.slice (some ⟨D,0,none⟩) n ke)/\r.cell? ⟨D,k,none⟩=some (.slice aj dl ak)/\r.cell? ⟨b.heap.size,0,none⟩=some (Z Y x0)/\r.cell? ⟨b.heap.size,1,none⟩=some (Z Y x3)/\r.cell? ⟨b.heap.size,2,none⟩=some (Z Y x2)/\r.cell? ⟨b.heap.size,3,none⟩=some (Z Y (step:Int))/\r.cell? ⟨b.heap.size,4,none⟩=some (Z Y (k:Int))/\r.cell? ⟨b.heap.size,5,none⟩=some (Z Y (dl:Int))/\r.cell? ⟨b.heap.size,6,none⟩=some (Z Y c.all)/\r.cell? ⟨b.heap.size,7,none⟩=some (Z Y 0)/\r.cell? ⟨b.heap.size,8,none⟩=some (Z Y 0))
       (first|(exact cO bn _ (by first|assumption|exact TH.drew|exact TH.drew.alloc TG _|exact Q.alloc Q.size _|exact(((Q.setCell (p:=⟨w3.heap.size,0,none⟩) TG _).setCell (p:=⟨w3.heap.size,1,none⟩) TG _).setCell (p:=⟨w3.heap.size,2,none⟩) TG _).setCell (p:=⟨w3.heap.size,3,none⟩) TG _))|(go_keep;done))
       (first|(go_at_call 73;refine(cO aO _ (by first|exact cj _ _|exact TH.drew|exact TH.drew.alloc TG _|exact TH.alloc TG _)).mono ?_;rintro e G ⟨A,v,rfl,aQ⟩;obtain⟨pm,km,au,_⟩:=dd aQ;rw[cO HM] at au;subst au;have Q:TI w3 G:=(by first|exact TH.drew.trans (A.mono TG)|exact(TH.drew.alloc TG _).trans (A.mono (by simp))|exact A);have ag:=cP Q;have ab:=cP aQ;try (have y:G.heap[w3.heap.size]?=some (.cells #[Z Y 0,.slice none 0 0,.bool false,Z Y 0] 167 (0,0)):=(A.block _ (by simp)).trans (ct w3.drew _);have bF:G.cell? ⟨w3.heap.size,0,none⟩=some (Z Y 0):=(by simp[World.cell?,y]);have bG:G.frozen? ⟨w3.heap.size,0,none⟩=false:=(by simp[World.frozen?,y]);have bH:G.cell? ⟨w3.heap.size,1,none⟩=some (.slice none 0 0):=(by simp[World.cell?,y]);have bI:G.frozen? ⟨w3.heap.size,1,none⟩=false:=(by simp[World.frozen?,y]);have bJ:G.cell? ⟨w3.heap.size,2,none⟩=some (.bool false):=(by simp[World.cell?,y]);have bK:G.frozen? ⟨w3.heap.size,2,none⟩=false:=(by simp[World.frozen?,y]);have bL:G.cell? ⟨w3.heap.size,3,none⟩=some (Z Y 0):=(by simp[World.cell?,y]);have bM:G.frozen? ⟨w3.heap.size,3,none⟩=false:=(by simp[World.frozen?,y]);have bp:=cP y;clear y);clear A aQ))
      all_goals
       first
        | (have h1:=(cO ag).alloc (cO ag).size (.cells #[Z Y t.value,.slice pm m km,.bool t.gx,Z Y t.lI] 167)
           have h2:=ct G (.cells #[Z Y t.value,.slice pm m km,.bool t.gx,Z Y t.lI] 167);have h3:=(fA (cO ab) (B:=w3.heap.size) (by simp)).alloc (.cells #[Z Y t.value,.slice pm m km,.bool t.gx,Z Y t.lI] 167);clear ab;generalize hu:Value.pointer (some ⟨G.heap.size,0,none⟩)=u;generalize Value.slice pm m km=v at *
           first
            |exact⟨rfl,v,u,rfl,G.heap.size,hu.symm,h2,h3,h1⟩
            |exact⟨rfl,v,u,rfl,G.heap.size,hu.symm,h2,h3.drew,h1.drew⟩)
        | (have h1:=((((cO ag).setCell (p:=⟨w3.heap.size,0,none⟩) TG (Z Y t.value)).setCell (p:=⟨w3.heap.size,1,none⟩) TG (.slice pm m km)).setCell (p:=⟨w3.heap.size,2,none⟩) TG (.bool t.gx)).setCell (p:=⟨w3.heap.size,3,none⟩) TG (Z Y t.lI)
           have h2:=xE (cO bp) (Z Y t.value) (.slice pm m km) (.bool t.gx) (Z Y t.lI);have o':∀{W:TJ} (j:Nat) (q:TK),W.ownsRow (w3.heap.size+1) 2 1 (.slice pm m km) t.dy.length (t.dy.map λm=>Z Y m.2)->(W.setCell ⟨w3.heap.size,j,none⟩ q).ownsRow (w3.heap.size+1) 2 1 (.slice pm m km) t.dy.length (t.dy.map λm=>Z Y m.2):=λj q h=>cI h (a:=⟨w3.heap.size,j,none⟩) (Nat.lt_succ_self _) q
           have h3:=fA (o' 3 (Z Y t.lI) (o' 2 (.bool t.gx) (o' 1 (.slice pm m km) (o' 0 (Z Y t.value) (fA (cO ab) (by simp)))))) (B:=w3.heap.size) (px _);clear ab o';unfold j6 at h2;generalize hu:Value.pointer (some ⟨w3.heap.size,0,none⟩)=u;generalize Value.slice pm m km=v at *
           first
            |exact⟨rfl,v,u,rfl,w3.heap.size,hu.symm,h2,h3,h1⟩
            |exact⟨rfl,v,u,rfl,w3.heap.size,hu.symm,h2,h3.drew,h1.drew⟩)
        |trace_state
     case right =>
     rintro v u U ⟨T,rfl,av,ab,ar⟩;obtain⟨pm,km,au,_⟩:=dd (cO ab);rw[cO HM] at au;subst au;have K:TI H U:=aa.trans ((cO ar).mono aa.size);have b4:=(cO ar).size;obtain⟨g,rfl,bS,bT⟩:=(cO aK).form (by omega);have bq:=cP ((cO aK).below (cO ar)).Ry;have bU:=(cO aK).lt;have br:Hid (TL prog 74 #[.agg #[.pointer (some ⟨B,0,none⟩),.slice pf n kf,.slice pe n ke,Z Y cT],.agg #[Z Y t.value,.slice pm m km,.bool t.gx,Z Y t.lI],Z Y k,.pointer (some ⟨C,0,none⟩)] U (BQ P C H.heap.size g kn n ((step:Int)+1) a.all (a.val++c.val.drop k) (a.fC++c.fC.drop k) a.dy t k U)):=M8 B pf n kf pe ke cT P Es t k (.slice pm m km) C H.heap.size g kn w3.heap.size ((step:Int)+1) a.all (a.val++c.val.drop k) (a.fC++c.fC.drop k) a.dy H U ((cO HP).below ad) ((cO HE).below ad) K af an (cO bq) aG TG (by rw[lN,(cO V).lv,uT,(cO L).lv];omega) (by rw[lN,(cO V).lr,uT,(cO L).lr];omega) (by have h1:=(cO V).l;have h2:k*256<=64*256:=Tj _ (by omega);omega) (cO ab) bU bT (Sp.LY (cO aq)) (cO bR) (by have:=cO aB;omega);obtain⟨i0,i1,i2,i3⟩:=fJ (B:=B) (pf:=pf) (n:=n) (kf:=kf) (pe:=pe) (ke:=ke) (cT:=cT) ((K.block w.heap.size (by omega)).trans (cO aX));have t0:U.cell? ⟨T,0,none⟩=some (Z Y t.value):=by simp[World.cell?,cO av]
     have t1:U.cell? ⟨T,1,none⟩=some (.slice pm m km):=by simp[World.cell?,cO av]
     have t2:U.cell? ⟨T,2,none⟩=some (.bool t.gx):=by simp[World.cell?,cO av]
     have t3:U.cell? ⟨T,3,none⟩=some (Z Y t.lI):=by simp[World.cell?,cO av]
     clear s0 s1 s2 s3 s4 s5 s6 s7 s8 aL aM aN av ab bq;go_wp2_with fail;refine(cO br).mono ?_;rintro e w5 ⟨rfl,bs,bu⟩;have bV:Hid (S2 H w5 C H.heap.size (some ⟨g,0,none⟩) kn n P Es c step (k+1) _):=S2.qA (cO HS).st (cO V) (cO L) af (cO HW) (cO aq) bu (K.trans (bs.below aG bS K.size));clear bs bu br i0 i1 i2 i3 t0 t1 t2 t3;go_wp2;go_roundw
     case rel=>exact⟨k+1,_,by omega,by go_num,bV⟩
     case measure=>simp[intOf];omega
  .have a6:¬(k:Int)<(n:Int):=by omega
   have bw:k=n:=by omega
   have x0:=(cO HS).pc.c0;have x1:=(cO HS).pc.c1;have x2:=(cO HS).pc.c2;have F:wr.heap[w.heap.size+1+1]?=_:=(ae.block (w.heap.size+1+1) (by omega)).trans (cO aY);have r0:wr.cell? ⟨w.heap.size+1+1,0,none⟩=some (Z Y 0):=by simp[World.cell?,F]
   have bO:wr.frozen? ⟨w.heap.size+1+1,0,none⟩=false:=by simp[World.frozen?,F]
   have r1:wr.cell? ⟨w.heap.size+1+1,1,none⟩=some (.slice none 0 0):=by simp[World.cell?,F]
   have bP:wr.frozen? ⟨w.heap.size+1+1,1,none⟩=false:=by simp[World.frozen?,F]
   have r2:wr.cell? ⟨w.heap.size+1+1,2,none⟩=some (Z Y 0):=by simp[World.cell?,F]
   have bQ:wr.frozen? ⟨w.heap.size+1+1,2,none⟩=false:=by simp[World.frozen?,F]
   have aP:Hid (O (.returned (.tuple #[.agg #[Z Y ((step:Int)+1),.slice pn n kn,Z Y a.all],Z Y 0,.bool true])) (fL wr (w.heap.size+1+1) (Z Y ((step:Int)+1)) (.slice pn n kn) (Z Y a.all))):=by
    show O _ _
    have bx:=(cO HS).st;rw[bw] at bx;rw[<-cO hO,bx];refine⟨mN a1 (by omega) _ _ _,_,rfl,?_⟩;have h1:=(cO HS).pc.o;rw[bw,Dl (by rw[(cO L).lv];exact b7 _),Dl (by rw[(cO L).lr];exact b7 _),B2,B2] at h1;exact fA (pM h1 (R:=w.heap.size+1+1) (by omega) _ _ _) (by omega)
   clear F;go_wp2;exact cr (v := .tuple #[.agg #[Z Y ((step:Int)+1),.slice pn n kn,Z Y a.all],Z Y 0,.bool true]) (by simp[results,results42,go_sem,r0,r1,r2]) rfl (cO aP)
end
section
open Go.RowKit
theorem P6(pn:Option Addr)(n kn:Nat)(pv:Option Addr)(kv:Nat)(pe:Option Addr)(ke:Nat)(Es:List Sp.Ed)(w:TJ)(he:fY w pe Es)(hn:n<=64)(hm:Es.length<=256)(S:∀x∈Es,x.de<n):TL prog 39 #[.agg #[.slice pn n kn,.slice pv n kv,.slice pe Es.length ke]] w (Hf n Es w):=by
 obtain⟨t2,ai,aj,ak,an⟩:=fa info_edge;obtain⟨t3,ao,aq,ar,au⟩:=fa info_edges;generalize hO:Hf n Es w=O;replace hO:=cP hO;have HE:=cP he;have av:=cP S;obtain⟨m,HM⟩:∃m,Hid (Es.length=m):=⟨_,rfl⟩
 rw[cO HM] at hm;rw[cO HM];have J:TI w (w.alloc (.cells #[.slice pn n kn,.slice pv n kv,.slice pe m ke] 68)):=TH.alloc TG _;have T:=ct w (.cells #[.slice pn n kn,.slice pv n kv,.slice pe m ke] 68);have K:=ee w (.cells #[.slice pn n kn,.slice pv n kv,.slice pe m ke] 68);clear he S;go_enter func39,ntmps39;go_wp2_with (first|((refine wpList_make_full _ rfl (.tmp 8) (.tmp 8) 73 rfl (w.heap.size+1) 66 t3 _ 1 underlying73 ao aq ar Y Y _ _ n rfl rfl rfl rfl (by rw[au];omega) (by unfold maxLen;omega) (by first|exact b7 _|omega|exact Nf K.symm) ?_;intro C r D;have aw:C.cell? ⟨w.heap.size,2,none⟩=some (.slice pe m ke):=(D.cell_far ⟨w.heap.size,2,none⟩ (by simp) (by simp)).trans (cn _ _ 2 _ _ (0,0) T)))|go_in);rw[K] at r;have ax:TI w C:=J.grown D J.size (λq U=>by cases U);have aH:w.heap.size+1<=C.heap.size:=by have:=D.size;omega
 have V:Hid (sa C (w.heap.size+1) (w.heap.size+1) n (λ_=>.slice none 0 0) (Es.take 0)):=by
  rw[List.take_zero];refine sa.new ?_;rw[Nat.mul_one] at r;rw[<-toList_madeCells_one];exact r
 clear r D aw J T K
 go_loopw [13] (λi wr=>∃(k:Nat) (f:Nat->TK),k<=m/\i=Z Y k/\Hid (sa wr (w.heap.size+1) (w.heap.size+1) n f (Es.take k))/\Below (w.heap.size+1) C wr) (λi _=>m-(intOf i).toNat)
 case atStart=>exact⟨0,_,cy _,rfl,V,cj _ _⟩
 case round =>
  clear V;obtain⟨k,f,hk,rfl,HV,hb⟩:=hrel;have W:TI w wr:=ax.trans (hb.mono (by omega));have aI:=hb.size;by_cases ay:k<m
  .have X:(k:Int)<(m:Int):=by omega
   have g0:(0:Int)<=(k:Int):=iJ _;have L:k<Es.length:=by rw[cO HM];exact ay
   obtain⟨g,rfl,hg,d0,d1,d2⟩:=((cO HE).below W) k L;obtain⟨x,hx⟩:∃x,Es[k]=x:=⟨_,rfl⟩
   have y:x.de<n:=by rw[<-hx];exact cO av _ (pY L)
   rw[hx] at d0 d1 d2;have s:Hid (Es.take (k+1)=Es.take k++[x]):=by show _=_;rw[zQ L,hx]
   clear hx;have aJ:(x.de:Int)<(n:Int):=by omega
   have aK:(0:Int)<=(x.de:Int):=iJ _;have az:(Sp.iG (Es.take k) x.de).length<=256:=by have:=Sp.oE (Es.take k) x.de;rw[A3] at this;omega
   obtain⟨R,E⟩:∃R,Hid ((Sp.iG (Es.take k) x.de).length=R):=⟨_,rfl⟩
   rw[cO E] at az;go_upto_region 5 with fail;generalize M:World.alloc _ _=j;have N:TI wr j:=by rw[<-M];exact TH.alloc TG _
   have u:j.heap[wr.heap.size]?=some (.cells #[Z Y (x.de:Int),Z Y (x.vo:Int),Z Y x.n] 162 (0,0)):=by rw[<-M];exact ct wr _
   clear M d0 d1 d2;have l:=(cO HV).below N;have aa:Below (w.heap.size+1) C j:=hb.trans (N.mono (by omega));have y0:j.cell? ⟨wr.heap.size,0,none⟩=some (Z Y (x.de:Int)):=by simp[World.cell?,u]
   have y1:j.cell? ⟨wr.heap.size,1,none⟩=some (Z Y (x.vo:Int)):=by simp[World.cell?,u]
   have y2:j.cell? ⟨wr.heap.size,2,none⟩=some (Z Y x.n):=by simp[World.cell?,u]
   have aA:wr.heap.size<j.heap.size:=cE j _ y0;have ab:=l.cell y;have aB:j.frozen? ⟨w.heap.size+1,x.de,none⟩=false:=l.o.frozenAt x.de;have ad:=l.lt;have P:=l.own x.de y;rw[cO E] at P;obtain⟨sl,F⟩:∃sl,f x.de=sl:=⟨_,rfl⟩
   have ae:=cP l;have af:=l.nd x.de y;rw[F] at ab P af;have G:=cP F;have ag:some wr.heap.size≠sl.ownBlock:=λe=>by have h:=((cO HV).own x.de y).lt wr.heap.size (by rw[F];exact e.symm);omega
   clear F u N l;have I:some (w.heap.size+1)≠sl.ownBlock:=λe=>af e.symm
   apply uy (λz w'=>∃f',Hid (sa w' (w.heap.size+1) (w.heap.size+1) n f' (Es.take (k+1)))/\Hid (Below (w.heap.size+1) C w'));apply Exists.intro;apply And.intro
   case left =>
    go_region_law ((refine step_append_lies _ (by rfl) _ _ _ (by rfl) (w.heap.size+1) 162 t2 _ 3 24 underlying66 ai aj ak an rfl (by omega) sl _ _ (by rfl) (by first|exact P.alloc _|exact(P.alloc _).drew|exact P.drew.alloc _) ⟨j.heap.size,0,none⟩ 1 1 [Z Y (x.de:Int),Z Y (x.vo:Int),Z Y x.n] (by rfl) (by rfl) (Rh (cs := #[Z Y (x.de:Int),Z Y (x.vo:Int),Z Y x.n]) (t:=162) (fr:=(0,0)) (ct j _)) (by simp[Value.oneCell']) (by omega) (by unfold maxLen;omega) (by omega) (by simp;omega) (j.heap.size+1) (by simp) ?_;intro g1 H w2 A b ah aG;have aL:w2.cell? ⟨w.heap.size+1,x.de,none⟩=some sl:=(b.cell_far ⟨w.heap.size+1,x.de,none⟩ (by simp;omega) I).trans (((cj j.heap.size j).alloc TG _).cell (p:=⟨w.heap.size+1,x.de,none⟩) ad.2 |>.trans ab);have aM:w2.cell? ⟨wr.heap.size,0,none⟩=some (Z Y (x.de:Int)):=(b.cell_far ⟨wr.heap.size,0,none⟩ (by simp;omega) ag).trans (((cj j.heap.size j).alloc TG _).cell (p:=⟨wr.heap.size,0,none⟩) aA |>.trans y0);have aN:w2.frozen? ⟨w.heap.size+1,x.de,none⟩=false:=(b.frozen_far ⟨w.heap.size+1,x.de,none⟩ (by simp;omega) I).trans (((cj j.heap.size j).alloc TG _).frozen (p:=⟨w.heap.size+1,x.de,none⟩) ad.2 |>.trans aB)))
    all_goals
     first
      | (have hA:TI j (j.alloc (.cells #[Z Y (x.de:Int),Z Y (x.vo:Int),Z Y x.n] 162)):=(cj j.heap.size j).alloc TG _
         have B:=((cO ae).below hA).app x y (cO E) (by rw[cO G];exact b) A (by rw[cO G];rcases ah with h|h;exact Or.inl h;exact Or.inr (by rw[h];simp));rw[<-cO s] at B;have Q:Below (w.heap.size+1) C (w2.setCell ⟨w.heap.size+1,x.de,none⟩ (.slice (some ⟨g1,0,none⟩) (R+1) H)):=((aa.trans (hA.mono (by omega))).grown b (by simp;omega) (λq U=>(P.lt q U).1)).setCell (p:=⟨w.heap.size+1,x.de,none⟩) TG _;generalize Value.slice (some ⟨g1,0,none⟩) (R+1) H=z at *;exact⟨rfl,z,rfl,_,B,Q⟩)
      | (have hA:TI j (j.alloc (.cells #[Z Y (x.de:Int),Z Y (x.vo:Int),Z Y x.n] 162)).drew:=((cj j.heap.size j).alloc TG _).drew
         have B:=((cO ae).below hA).app x y (cO E) (by rw[cO G];exact b) A (by rw[cO G];rcases ah with h|h;exact Or.inl h;exact Or.inr (by rw[h];simp));rw[<-cO s] at B;have Q:Below (w.heap.size+1) C (w2.setCell ⟨w.heap.size+1,x.de,none⟩ (.slice (some ⟨g1,0,none⟩) (R+1) H)):=((aa.trans (hA.mono (by omega))).grown b (by simp;omega) (λq U=>(P.lt q U).1)).setCell (p:=⟨w.heap.size+1,x.de,none⟩) TG _;generalize Value.slice (some ⟨g1,0,none⟩) (R+1) H=z at *;exact⟨rfl,z,rfl,_,B,Q⟩)
      |trace_state
   case right =>
   rintro z w4 ⟨f',aC,aD⟩;go_wp2;go_roundw
   case rel=>exact⟨k+1,f',by omega,by go_num,aC,cO aD⟩
   case measure=>simp[intOf];omega
  .have X:¬(k:Int)<(m:Int):=by omega
   have aE:k=Es.length:=by rw[cO HM];omega
   have aF:Hid (O (.returned (.slice (some ⟨w.heap.size+1,0,none⟩) n n)) wr):=by
    show O _ _
    rw[<-cO hO];have h:=cO HV;rw[aE,wI] at h;exact⟨W,_,f,rfl,h.low (by omega)⟩
   go_wp2;exact cO aF
end
section
open Go.RowKit
def Jl(B:Nat)(j:Option Addr)(n l cT:Nat)(Es:List Sp.Ed)(w:TJ)(e:Ending)(w':TJ):Prop:=TI w w'/\∃b m,e=.returned (.agg (dW B j n l b m cT))/\Gl w' b n Es
theorem Mc(K:Option Addr)(n L:Nat)(l:Option Addr)(r:Nat)(pe:Option Addr)(ke B cT:Nat)(Es:List Sp.Ed)(w:TJ)(he:fY w pe Es)(t:n<=64)(s:Es.length<=256)(G:∀x∈Es,x.de<n):TL prog 24 #[.agg #[.slice K n L,.slice l n r,.slice pe Es.length ke],.pointer (some ⟨B,0,none⟩),Z Y cT] w (Jl B l n r cT Es w):=by
 generalize M:Jl B l n r cT Es w=O;replace M:=cP M;have N:=cP (λW (hb:TI w W)=>P6 K n L l r pe ke Es W (he.below hb) t s G);have H:=cP (pJ w #[.slice K n L,.slice l n r,.slice pe Es.length ke] #[.pointer none,.slice none 0 0,.slice none 0 0,Z Y 0] 68 75);clear he G;generalize Es.length=m at *;have P:Hid (∀(args:Array TK) (w:TJ),(callFunc 39 args).run prog w=.ok (.enter 39 args) w):=cV func39 (by kernel_rfl) (by kernel_rfl);go_enter func24,ntmps24;go_upto_region 1 with fail;generalize X:World.alloc (World.alloc _ _) _=z;obtain⟨A,I,F,o⟩:=cO H z X.symm;clear X H;have g0:z.cell? ⟨w.heap.size,0,none⟩=some (.slice K n L):=by simp[World.cell?,A]
 have g:z.cell? ⟨w.heap.size,1,none⟩=some (.slice l n r):=by simp[World.cell?,A]
 have g2:z.cell? ⟨w.heap.size,2,none⟩=some (.slice pe m ke):=by simp[World.cell?,A]
 have Q:w.heap.size<z.heap.size:=by omega
 have u:w.heap.size+1<z.heap.size:=by omega
 have S:=cP I;clear A I
 go_region_law (refine di (by rfl) _ _ _ (by rfl) 39 (by rfl) _ (by rfl) (cO P) (cO N _ (by first|exact F|exact F.drew)) ?_;rintro e b ⟨y,D,f,rfl,q⟩;dsimp only;have C:TI z b:=(by first|exact y|exact TH.drew.trans (y.mono TG));have J:sa b z.heap.size D n f Es:=q;have q1:b.cell? ⟨w.heap.size,1,none⟩=some (.slice l n r):=(C.cell (p:=⟨w.heap.size,1,none⟩) Q).trans g;have E:=(C.block _ u).trans (cO S);have r0:b.cell? ⟨w.heap.size+1,0,none⟩=some (.pointer none):=(by simp[World.cell?,E]);have r1:b.cell? ⟨w.heap.size+1,1,none⟩=some (.slice none 0 0):=(by simp[World.cell?,E]);have r2:b.cell? ⟨w.heap.size+1,2,none⟩=some (.slice none 0 0):=(by simp[World.cell?,E]);have r3:b.cell? ⟨w.heap.size+1,3,none⟩=some (Z Y 0):=(by simp[World.cell?,E]);have f0:b.frozen? ⟨w.heap.size+1,0,none⟩=false:=(by simp[World.frozen?,E]);have f1:b.frozen? ⟨w.heap.size+1,1,none⟩=false:=(by simp[World.frozen?,E]);have f2:b.frozen? ⟨w.heap.size+1,2,none⟩=false:=(by simp[World.frozen?,E]);have f3:b.frozen? ⟨w.heap.size+1,3,none⟩=false:=(by simp[World.frozen?,E]);have T:=cP C;have U:=cP J;clear C y q J E)
 all_goals
  have V:Hid (O (.returned (.agg #[.pointer (some ⟨B,0,none⟩),.slice l n r,.slice (some ⟨D,0,none⟩) n n,Z Y cT])) ((((b.setCell ⟨w.heap.size+1,0,none⟩ (.pointer (some ⟨B,0,none⟩))).setCell ⟨w.heap.size+1,1,none⟩ (.slice l n r)).setCell ⟨w.heap.size+1,2,none⟩ (.slice (some ⟨D,0,none⟩) n n)).setCell ⟨w.heap.size+1,3,none⟩ (Z Y cT))):=by
   show O _ _
   rw[<-cO M];have h1:=((((cO U).Bd (R:=w.heap.size+1) (j:=0) (v := .pointer (some ⟨B,0,none⟩)) u).Bd (R:=w.heap.size+1) (j:=1) (v := .slice l n r) u).Bd (R:=w.heap.size+1) (j:=2) (v := .slice (some ⟨D,0,none⟩) n n) u).Bd (R:=w.heap.size+1) (j:=3) (v := Z Y cT) u;have h2:TI w b:=F.trans ((cO T).mono (by omega));exact⟨(((h2.setCell (p:=⟨w.heap.size+1,0,none⟩) (px _) _).setCell (p:=⟨w.heap.size+1,1,none⟩) (px _) _).setCell (p:=⟨w.heap.size+1,2,none⟩) (px _) _).setCell (p:=⟨w.heap.size+1,3,none⟩) (px _) _,_,_,rfl,h1.read⟩
  first
   | (go_wp2;exact cr (v := .agg #[.pointer (some ⟨B,0,none⟩),.slice l n r,.slice (some ⟨D,0,none⟩) n n,Z Y cT]) (by simp[results,results24,go_sem,r0,r1,r2,r3]) rfl (cO V))
   |trace_state
end
section
open Go.RowKit
def vX(b:Sp.nK)(w:TJ)(e:Ending)(w':TJ):Prop:=TI w w'/\∃v,e=.returned (.agg #[Z .u8 b.outcome,Z Y b.step,Z Y b.dC,v])/\w'.ownsRow w.heap.size 2 1 v b.dH.length (b.dH.map (Z Y))
theorem Jg{b:Sp.nK}{w m:TJ}{o s i:Int}{V:List Int}{p:Option Addr}{n k B:Nat}(r:(b.outcome:Int)=o/\(b.step:Int)=s/\(b.dC:Int)=i/\b.dH=V/\V.length=n)(hb:TI w m)(y:m.ownsRow B 2 1 (.slice p n k) n (V.map (Z Y)))(z:w.heap.size+1+1<B):vX b w (.returned (.agg #[Z .u8 o,Z Y s,Z Y i,.slice p n k])) (j6 m (w.heap.size+1+1) (Z .u8 o) (Z Y s) (Z Y i) (.slice p n k)):=by
 obtain⟨A,C,D,E,F⟩:=r;refine⟨?_,.slice p n k,by rw[A,C,D],?_⟩
 .have e:w.heap.size<=w.heap.size+1+1:=by omega
  exact(((hb.setCell (p:=⟨w.heap.size+1+1,0,none⟩) e _).setCell (p:=⟨w.heap.size+1+1,1,none⟩) e _).setCell (p:=⟨w.heap.size+1+1,2,none⟩) e _).setCell (p:=⟨w.heap.size+1+1,3,none⟩) e _
 .rw[E,F];have l:∀{W:TJ} (j:Nat) (u:TK),W.ownsRow B 2 1 (.slice p n k) n (V.map (Z Y))->(W.setCell ⟨w.heap.size+1+1,j,none⟩ u).ownsRow B 2 1 (.slice p n k) n (V.map (Z Y)):=λj u h=>cI h (a:=⟨w.heap.size+1+1,j,none⟩) z u
  exact fA (l 3 _ (l 2 _ (l 1 _ (l 0 _ y)))) (by omega)
structure LG (W0 wr:TJ) (K n:Nat) (P:Sp.Pg) (Es:List Sp.Ed) (cT s:Nat) (c:Sp.Cfg) (p:Option Addr) (cap:Nat) (res:Sp.nK):Prop where
 cb:wr.heap[K]?=some (.cells #[Z Y (s:Int),.slice p n cap,Z Y c.all] 80 (0,0))
 vx:kl wr p c n
 ok:Sp.eT n c
 go:Sp.BH P Es cT (cT+1-s) s c=res
 sv:eI K K W0 wr
def sU(K:Nat)(w:TJ):Nat:=match w.cell? ⟨K,0,none⟩ with
 |some v=>(intOf v).toNat
 |none=>0
theorem nC{w:TJ}{K:Nat}{n:Int}(h:w.cell? ⟨K,0,none⟩=some (Z Y n)):sU K w=n.toNat:=by
 unfold sU;rw[h];rfl
theorem LG.next{C l:TJ}{K n:Nat}{P:Sp.Pg}{Es:List Sp.Ed}{cT s cap B:Nat}{p:Option Addr}{c:Sp.Cfg}{m:Sp.nK}{x y z:TK}(o:Obj)(hb:l.heap[K]?=some (.cells #[x,y,z] 80 (0,0)))(E:l.ownsRow B 104 4 (.slice p n cap) n (jm c.val c.fC c.iK c.je n))(F:K<B)(G:Sp.eT n c)(H:Sp.BH P Es cT (cT+1-(s+1)) (s+1) c=m)(I:eI K K C l):LG C ((fL l K (Z Y ((s:Int)+1)) (.slice p n cap) (Z Y c.all)).alloc o) K n P Es cT (s+1) c p cap m:=by
 have r:=eJ (i:=2) (eJ (i:=1) (eJ (i:=0) hb (Z Y ((s:Int)+1))) (.slice p n cap)) (Z Y c.all);have b:(fL l K (Z Y ((s:Int)+1)) (.slice p n cap) (Z Y c.all)).heap[K]?=some (.cells #[Z Y ((s:Int)+1),.slice p n cap,Z Y c.all] 80 (0,0)):=by
  unfold fL;simpa using r
 have u:Below (fL l K (Z Y ((s:Int)+1)) (.slice p n cap) (Z Y c.all)).heap.size (fL l K (Z Y ((s:Int)+1)) (.slice p n cap) (Z Y c.all)) ((fL l K (Z Y ((s:Int)+1)) (.slice p n cap) (Z Y c.all)).alloc o):=TH.alloc TG _;have A:=pM E F (Z Y ((s:Int)+1)) (.slice p n cap) (Z Y c.all);obtain⟨L,D,e,J⟩:=gS (all:=c.all) A;injection e with e1 _ e3;subst e1 e3;refine⟨?_,kl.below J u,G,H,?_⟩
 .rw[u.block K (cB.1 b).1,b];rfl
 .exact(((I.set (q:=K) (j:=0) (Or.inl rfl) _).set (q:=K) (j:=1) (Or.inl rfl) _).set (q:=K) (j:=2) (Or.inl rfl) _).trans (eI.gK u)
theorem prun(B:Nat)(pf:Option Addr)(n kf:Nat)(pe:Option Addr)(ke cT:Nat)(P:Sp.Pg)(Es:List Sp.Ed)(p:Option Addr)(cap:Nat)(c0:Sp.Cfg)(z f:Addr)(F:Nat)(l:Sp.nK)(w:TJ)(hp:jJ w B P)(aC:kj w z f)(he:Gl w pe n Es)(hv:kl w p c0 n)(aD:Sp.eT n c0)(hj:Sp.iN P Es n)(hl:cT<=200)(ai:Sp.BH P Es cT (cT+1) 0 c0=l)(a8:∀(args:Array TK) (w:TJ),(callFunc F args).run prog w=.ok (.enter F args) w)(aE:∀(a:Int) (q:Option Addr) (m k:Nat) (b:Int) (W:TJ),TL prog F #[.agg #[Z Y a,.slice q m k,Z Y b]] W λe w'=>e=.returned (.tuple #[])/\TI W w'):TL prog 25 #[.agg (dW B pf n kf pe ke cT),gw 0 p n cap c0.all,.func (.func F) #[] #[]] w (vX l w):=by
 generalize hO:vX l w=O;replace hO:=cP hO;have HP:=cP hp;have HR:=cP aC;have HE:=cP he;have HJ:=cP hj;have aR:=cP aE;have S:=hj.FR;have aF:=cP (jy w (dW B pf n kf pe ke cT) #[Z Y 0,.slice p n cap,Z Y c0.all] #[Z .u8 0,Z Y 0,Z Y 0,.slice none 0 0] 75 80 32);have aG:Hid (∀W,TI w W->W.heap[w.heap.size+1]?=some (.cells #[Z Y 0,.slice p n cap,Z Y c0.all] 80 (0,0))->LG W W (w.heap.size+1) n P Es cT 0 c0 p cap l):=λW hb hk=>⟨hk,hv.below hb,aD,ai,eI.refl _ _ _⟩
 have aj:Hid (∀(args:Array TK) (w:TJ),(callFunc 41 args).run prog w=.ok (.enter 41 args) w):=cV func41 (by kernel_rfl) (by kernel_rfl);clear hp aC he hv aD hj aE ai;unfold gw;unfold dW at *;go_enter func25,ntmps25;go_wp2_with fail;generalize hW:World.alloc (World.alloc _ _) _=W0;obtain⟨aH,aI,aJ,aK,ba⟩:=cO aF W0 hW.symm;have aS:=cP aH;have aT:=cP aJ;have aL:=cP (cO aG W0 aK aI);clear hW aF aH aI aJ aG
 go_loopw [7] (λ_ wr=>∃(s:Nat) (c:Sp.Cfg) (p:Option Addr) (cap:Nat),s<=cT/\Hid (LG W0 wr (w.heap.size+1) n P Es cT s c p cap l)) (λ_ wr=>cT+1-sU (w.heap.size+1) wr)
 case atStart=>exact⟨0,c0,p,cap,cy _,aL⟩
 case round =>
  clear aL;obtain⟨s,c,p,cap,hs,T⟩:=hrel;have U:=(cO T).sv;have a1:=U.size;have D:TI w wr:=aK.trans (U.below (by omega) (by omega) (by omega));have N:=cP ((U.block (w.heap.size+1+1) (by omega) (by omega) (by omega)).trans (cO aT));have ar:=cP ((U.block w.heap.size (by omega) (by omega) (by omega)).trans (cO aS));obtain⟨j0,j1,j2,j3⟩:=fJ (B:=B) (pf:=pf) (n:=n) (kf:=kf) (pe:=pe) (ke:=ke) (cT:=cT) (cO ar);obtain⟨V,k1,k2,_⟩:=dL (cO T).cb;have aU:Hid (sU (w.heap.size+1) wr=s):=by show _=_;rw[nC V];rfl
  have ae:=cP (pending B pf n kf pe ke cT s p n cap c wr (cO T).vx (cO T).ok.lv S (by omega) hl);unfold gw dW at ae;have aM:=Aw cT c s;obtain⟨en,au⟩:∃en,Hid (Sp.gu cT c s=en):=⟨_,rfl⟩
  rw[cO au] at ae aM;go_wp2_with fail;refine(cO ae).mono ?_;rintro e w2 ⟨rfl,G⟩;have bc:=G.size;have r:Hid (LG W0 w2 (w.heap.size+1) n P Es cT s c p cap l):=⟨(G.block _ (cB.1 (cO T).cb).1).trans (cO T).cb,(cO T).vx.below G,(cO T).ok,(cO T).go,(cO T).sv.trans (eI.gK G)⟩
  have M:TI w w2:=D.trans (G.mono D.size);have X:=cP ((G.block (w.heap.size+1+1) (by omega)).trans (cO N));have ak:=cP ((G.block w.heap.size (by omega)).trans (cO ar));clear j0 j1 j2 j3 V k1 k2 ae N ar D U G;obtain⟨V,k1,k2,_⟩:=dL (cO r).cb;have af:w.heap.size+1<w2.heap.size:=by omega
  have ag:w.heap.size+1+1<w2.heap.size:=by omega
  by_cases c1:en=0
  .subst c1;obtain⟨a6,av⟩:=Oc (cO r).go hs (cO au);rw[(cO r).ok.lv] at av;have aw:=cP av;clear av aM T;go_wp2_with fail;refine(cO aR _ _ _ _ _ _).mono ?_;rintro e w3 ⟨rfl,H⟩;have bd:=H.size;have I:TI w w3:=M.trans (H.mono M.size);have u:Hid (LG W0 w3 (w.heap.size+1) n P Es cT s c p cap l):=⟨(H.block _ af).trans (cO r).cb,(cO r).vx.below H,(cO r).ok,(cO r).go,(cO r).sv.trans (eI.gK H)⟩
   have an:=cP ((H.block (w.heap.size+1+1) ag).trans (cO X));have t:=cP ((H.block w.heap.size (by omega)).trans (cO ak));clear V k1 k2 r X ak H M;obtain⟨j0,j1,j2,j3⟩:=fJ (B:=B) (pf:=pf) (n:=n) (kf:=kf) (pe:=pe) (ke:=ke) (cT:=cT) (cO t);obtain⟨V,k1,k2,_⟩:=dL (cO u).cb;have Q:=cP (Ja B pf n kf pe ke cT P Es p cap s c z f w3 ((cO HP).below I) ((cO HR).below I) ((cO HE).below I) (cO u).vx (cO u).ok (cO HJ) (by omega));unfold gw dW at Q;obtain⟨o,aN⟩:∃o,Hid (Sp.lK P Es c s n=o):=⟨_,rfl⟩
   rw[cO aN] at Q aw;go_wp2_with fail;cases o with
   |error i =>
    refine(cO Q).mono ?_;rintro e w4 ⟨y,rfl⟩;have aV:=y.size;have ao:TI w w4:=I.trans (y.mono I.size);have ah:Hid (LG W0 w4 (w.heap.size+1) n P Es cT s c p cap l):=⟨(y.block _ (by omega)).trans (cO u).cb,(cO u).vx.below y,(cO u).ok,(cO u).go,(cO u).sv.trans (eI.gK y)⟩
    have g:Hid ((l.outcome:Int)=3/\(l.step:Int)=(s:Int)/\(l.dC:Int)=(i:Int)/\l.dH=c.val/\c.val.length=n):=by
     have h:(⟨3,s,i,c.val⟩:Sp.nK)=l:=cO aw;rw[<-h];exact⟨rfl,rfl,rfl,rfl,(cO ah).ok.lv⟩
    have aq:=(y.block (w.heap.size+1+1) (by omega)).trans (cO an);clear j0 j1 j2 j3 V k1 k2 u t y Q;go_upto_region 7 with fail;generalize aO:World.alloc _ _=w5;have R:TI w4 w5:=by rw[<-aO];exact TH.alloc TG _
    have bg:=R.size;have N:=cP ((R.block (w.heap.size+1+1) (by omega)).trans aq);have D:TI w w5:=ao.trans (R.mono ao.size);obtain⟨V,k1,k2,_⟩:=dL ((R.block _ (by omega)).trans (cO ah).cb);have af:w.heap.size+1<w5.heap.size:=by omega
    have ag:w.heap.size+1+1<w5.heap.size:=by omega
    have ax:w.heap.size+1+1<w5.heap.size:=by omega
    have aa:Hid (∀W,TI w5 W->TL prog 41 #[.agg #[Z Y (s:Int),.slice p n cap,Z Y c.all]] W λe w'=>TI W w'/\∃v,e=.returned v/\w'.ownsRow w5.heap.size 2 1 v n (c.val.map (Z Y))):=by
     show ∀W,_
     intro W hW;refine(rG s p n cap c W (((cO ah).vx.below R).below hW) (cO ah).ok.lv S).mono ?_;rintro e w' ⟨h1,v,h2,h3⟩;exact⟨h1,v,h2,fA h3 hW.size⟩
    clear aO R aq
    go_region_law (refine di (by rfl) _ _ _ (by rfl) 41 (by rfl) _ (by rfl) (cO aj) (cO aa _ (by first|exact cj _ _|exact TH.drew)) ?_;rintro e A ⟨C,vv,rfl,J⟩;obtain⟨K,L,ab,_⟩:=dd J;subst ab;dsimp only;have E:TI w5 A:=(by first|exact C|exact TH.drew.trans (C.mono TG));have q0:A.cell? ⟨w.heap.size+1,0,none⟩=some (Z Y (s:Int)):=(E.cell (p:=⟨w.heap.size+1,0,none⟩) af).trans V;have j:=(E.block (w.heap.size+1+1) ag).trans (cO N);have r0:A.cell? ⟨w.heap.size+1+1,0,none⟩=some (Z .u8 0):=(by simp[World.cell?,j]);have aW:A.frozen? ⟨w.heap.size+1+1,0,none⟩=false:=(by simp[World.frozen?,j]);have r1:A.cell? ⟨w.heap.size+1+1,1,none⟩=some (Z Y 0):=(by simp[World.cell?,j]);have aX:A.frozen? ⟨w.heap.size+1+1,1,none⟩=false:=(by simp[World.frozen?,j]);have r2:A.cell? ⟨w.heap.size+1+1,2,none⟩=some (Z Y 0):=(by simp[World.cell?,j]);have aY:A.frozen? ⟨w.heap.size+1+1,2,none⟩=false:=(by simp[World.frozen?,j]);have r3:A.cell? ⟨w.heap.size+1+1,3,none⟩=some (.slice none 0 0):=(by simp[World.cell?,j]);have aZ:A.frozen? ⟨w.heap.size+1+1,3,none⟩=false:=(by simp[World.frozen?,j]);have ay:=cP E;have az:=cP J;clear E C J j)
    all_goals
     have aA:Hid (O (.returned (.agg #[Z .u8 3,Z Y (s:Int),Z Y (i:Int),.slice K n L])) (j6 A (w.heap.size+1+1) (Z .u8 3) (Z Y (s:Int)) (Z Y (i:Int)) (.slice K n L))):=by
      show O _ _
      rw[<-cO hO];exact Jg (cO g) (D.trans ((cO ay).mono D.size)) (cO az) ax
     first
      | (go_wp2;exact cr (v := .agg #[Z .u8 3,Z Y (s:Int),Z Y (i:Int),.slice K n L]) (by simp[results,results25,go_sem,r0,r1,r2,r3]) rfl (cO aA))
      |trace_state
   |ok a =>
    refine(cO Q).mono ?_;rintro e w4 ⟨y,sl,rfl,aB⟩;have aV:=y.size;obtain⟨pn,kn,ab,_⟩:=dd aB;subst ab;have aP:Sp.eT n (Sp.fh P n a):=Sp.r8 (cO HJ) (Sp.sq (cO HJ) lP (cO u).ok (by omega) n TG a (cO aN));have ad:=(y.block (w.heap.size+1) (by omega)).trans (cO u).cb;have aQ:Hid (∀o,LG W0 ((fL w4 (w.heap.size+1) (Z Y ((s:Int)+1)) (.slice pn n kn) (Z Y a.all)).alloc o) (w.heap.size+1) n P Es cT (s+1) (Sp.fh P n a) pn kn l):=λo=>LG.next o ad aB (by omega) aP (cO aw) ((cO u).sv.trans (eI.gK y))
    clear j0 j1 j2 j3 V k1 k2;obtain⟨V,k1,k2,kf⟩:=dL ad;have f0:=kf 0;have f1:=kf 1;have f2:=kf 2;have a7:w.heap.size+1<w4.heap.size:=by omega
    clear aB y ad u t Q an kf;go_wp2;go_roundw
    case rel=>exact⟨s+1,_,pn,kn,by omega,cP (cO aQ _)⟩
    case measure =>
     have h1:=cO aU;have h2:=nC (dL (cO aQ (.cells #[Z Y ((s:Int)+1),.slice pn n kn,Z Y a.all] 80)).cb).1;unfold fL at h2;rw[h1,h2];omega
  .have bh:(en != 0)=true:=by rw[E8];exact c1
   obtain⟨e1,e2,e3,e4⟩:=LF (cO r).go hs (cO au) c1;have g:Hid ((l.outcome:Int)=en/\(l.step:Int)=(s:Int)/\(l.dC:Int)=0/\l.dH=c.val/\c.val.length=n):=⟨e1,by rw[e2],by rw[e3];rfl,e4,(cO r).ok.lv⟩
   have N:=X;have D:=M;have ax:w.heap.size+1+1<w2.heap.size:=by omega
   have aa:Hid (∀W,TI w2 W->TL prog 41 #[.agg #[Z Y (s:Int),.slice p n cap,Z Y c.all]] W λe w'=>TI W w'/\∃v,e=.returned v/\w'.ownsRow w2.heap.size 2 1 v n (c.val.map (Z Y))):=by
    show ∀W,_
    intro W hW;refine(rG s p n cap c W ((cO r).vx.below hW) (cO r).ok.lv S).mono ?_;rintro e w' ⟨h1,v,h2,h3⟩;exact⟨h1,v,h2,fA h3 hW.size⟩
   clear e1 e2 e3 e4 c1;go_upto_region 3 with fail
   go_region_law (refine di (by rfl) _ _ _ (by rfl) 41 (by rfl) _ (by rfl) (cO aj) (cO aa _ (by first|exact cj _ _|exact TH.drew)) ?_;rintro e A ⟨C,vv,rfl,J⟩;obtain⟨K,L,ab,_⟩:=dd J;subst ab;dsimp only;have E:TI w2 A:=(by first|exact C|exact TH.drew.trans (C.mono TG));have q0:A.cell? ⟨w.heap.size+1,0,none⟩=some (Z Y (s:Int)):=(E.cell (p:=⟨w.heap.size+1,0,none⟩) af).trans V;have j:=(E.block (w.heap.size+1+1) ag).trans (cO N);have r0:A.cell? ⟨w.heap.size+1+1,0,none⟩=some (Z .u8 0):=(by simp[World.cell?,j]);have aW:A.frozen? ⟨w.heap.size+1+1,0,none⟩=false:=(by simp[World.frozen?,j]);have r1:A.cell? ⟨w.heap.size+1+1,1,none⟩=some (Z Y 0):=(by simp[World.cell?,j]);have aX:A.frozen? ⟨w.heap.size+1+1,1,none⟩=false:=(by simp[World.frozen?,j]);have r2:A.cell? ⟨w.heap.size+1+1,2,none⟩=some (Z Y 0):=(by simp[World.cell?,j]);have aY:A.frozen? ⟨w.heap.size+1+1,2,none⟩=false:=(by simp[World.frozen?,j]);have r3:A.cell? ⟨w.heap.size+1+1,3,none⟩=some (.slice none 0 0):=(by simp[World.cell?,j]);have aZ:A.frozen? ⟨w.heap.size+1+1,3,none⟩=false:=(by simp[World.frozen?,j]);have ay:=cP E;have az:=cP J;clear E C J j)
   all_goals
    have aA:Hid (O (.returned (.agg #[Z .u8 en,Z Y (s:Int),Z Y 0,.slice K n L])) (j6 A (w.heap.size+1+1) (Z .u8 en) (Z Y (s:Int)) (Z Y 0) (.slice K n L))):=by
     show O _ _
     rw[<-cO hO];exact Jg (cO g) (D.trans ((cO ay).mono D.size)) (cO az) ax
    first
     | (go_wp2;exact cr (v := .agg #[Z .u8 en,Z Y (s:Int),Z Y 0,.slice K n L]) (by simp[results,results25,go_sem,r0,r1,r2,r3]) rfl (cO aA))
     |trace_state
end
end Go.Proofs.YtgkkdpegcieakaaGreatDoor
