import Derived.Test.YtgkkdpegcieakaaGreatDoorCw30
import Derived.Test.YtgkkdpegcieakaaGreatDoorCw34
set_option linter.all false
set_option maxRecDepth 100000
set_option maxHeartbeats 16000000
namespace Go.Proofs.YtgkkdpegcieakaaGreatDoor
open Go.Proofs.Tryz
open Value renaming int→Z,slice→J,string→H,pointer→WV,bool→WW,tuple→WX,agg→WY
open Ending renaming returned→WZ
open Obj renaming cells→D
open Option renaming none→U,some→S
open Bool renaming true→W8,false→W9
open Or renaming inl→Xa,inr→Xb
open List renaming length→Xg
open _root_.Array renaming size→K
open World renaming alloc→Xe,heap→E
open IntKind renaming i64→Y
open Go renaming World→WR,Value→WS,Calls→WT
open Go.RowKit
namespace Ru
open Sp (nG lW gX bt dq dx okB)
open Pk (dh cV de)
def Jb(W:WR)(B L da n:Nat)(k m v:WU)(b:Nat)(e:Int):Prop:=(W.cell? ⟨B,0,U⟩=S (Z .u32 da)/\W.cell? ⟨B,1,U⟩=S (Z Y n))/\
 (W.cell? ⟨B+1,0,U⟩=S (H k)/\W.cell? ⟨B+1,1,U⟩=S (H m)/\W.cell? ⟨B+1,2,U⟩=S (H v))/\
 (W.cell? ⟨L,0,U⟩=S (Z Y b)/\W.cell? ⟨L,1,U⟩=S (J U 0 0)/\W.cell? ⟨L,2,U⟩=S (Z Y e))
theorem Jb.below{W b:WR}{B L da n:Nat}{k m v:WU}{e:Nat}{j:Int}(h:Jb W B L da n k m v e j)(hb:WQ W b):Jb b B L da n k m v e j:=by
 obtain⟨⟨r,u⟩,⟨y,z,A⟩,C,F,G⟩:=h;have f:∀{p:Addr} {x:WS},W.cell? p=S x->b.cell? p=S x:=λ{p x} l=>(hb.cell (Ui W _ l)).trans l
 exact⟨⟨f r,f u⟩,⟨f y,f z,f A⟩,f C,f F,f G⟩
def Good(da n:Nat)(k m v:WU)(b:Nat)(e:Int):Prop:=k=dq (kB b e da (gX v) (gX m))/\(okB v=W8/\(dx v).size=9*n)/\(okB m=W8/\(dx m).size=12*n)/\∀i,i<n->bt (dx v) (9*i+8)<=1
def zU(da n:Nat)(k m v:WU)(b:Nat)(j:Int)(w:WR)(e:Ending)(w':WR):Prop:=WQ w w'/\
 (Good da n k m v b j->∃sl,e=WZ (WX #[WY #[Z Y b,sl,Z Y j],WW W8])/\w'.ownsRow (K (E w)) 104 4 sl n (jg (gC (dx v) (dx m) ⟨#[]⟩ n).val (gC (dx v) (dx m) ⟨#[]⟩ n).fC (gC (dx v) (dx m) ⟨#[]⟩ n).iI (gC (dx v) (dx m) ⟨#[]⟩ n).jf n))/\
 (¬Good da n k m v b j->∃s l:Int,e=WZ (WX #[WY #[Z Y s,J U 0 0,Z Y l],WW W9]))
theorem wy(da n:Nat)(k m v:WU)(l:Nat)(r:Int)(w:WR)(hn:n<=64)(hj:da<4294967296)(hk:k.size<=4194304)(hm:m.size<=4194304)(hv:v.size<=4194304)(h1:okB k=W8)(h2:(dx k).size=24)(az:num (dx k) 0 4=l)(aJ:pR (num (dx k) 4 8)=r):WT prog 80 #[WY #[Z .u32 da,Z Y n],WY #[H k,H m,H v]] w (zU da n k m v l r w):=by
 have bk:l<4294967296:=by rw[<-az];exact gW _ 4 0
 have HO:=cT (λW=>rW k W hk h1 h2);rw[az,aJ] at HO;generalize hO:zU da n k m v l r w=j;replace hO:=cT hO;clear h1 h2 az aJ;have aK:=cT (jj w #[Z .u32 da,Z Y n] #[H k,H m,H v] gH 91 176 80);go_enter func80,ntmps80;go_wp2_with fail;generalize hW:Xe (Xe _ _) _=W0;obtain⟨b1,b2,b3,aA,hz⟩:=cS aK W0 hW.symm;clear hW aK;refine((cS HO) W0).mono ?_;rintro e w1 ⟨rfl,an⟩;obtain⟨L,hL⟩:∃L,K (E w1)=L:=⟨_,rfl⟩
 have hA:WQ w1 (w1.alloc (D #[Z Y l,J U 0 0,Z Y r] 80)):=WO.alloc WN _;have I:=T9 w1 (D #[Z Y l,J U 0 0,Z Y r] 80);have t:=an.trans (hA.mono an.size);clear HO;go_upto_region 2 with fail;rw[hL] at I;generalize aU:Xe _ _=W2 at I t ⊢;have e1:=(t.block _ (cV b1)).trans b1;have e2:=(t.block _ (cV b2)).trans b2;have e3:=(t.block _ (cV b3)).trans b3;have aB:=aA.trans (t.mono aA.size);have aV:K (E w)+1+1<L:=by have:=an.size;omega
 have HJ:Jb W2 (K (E w)) L da n k m v l r:=⟨⟨by rw[T5 W2 _ 0 _ _ _ e1];rfl,by rw[T5 W2 _ 1 _ _ _ e1];rfl⟩,⟨by rw[T5 W2 _ 0 _ _ _ e2];rfl,by rw[T5 W2 _ 1 _ _ _ e2];rfl,by rw[T5 W2 _ 2 _ _ _ e2];rfl⟩,by rw[T5 W2 _ 0 _ _ _ I];rfl,by rw[T5 W2 _ 1 _ _ _ I];rfl,by rw[T5 W2 _ 2 _ _ _ I];rfl⟩
 have E3:=cT e3;have EL:=cT I;clear aU b1 b2 b3 aA an t hA e1 e2 e3 I hz hL;obtain⟨KB,ao⟩:∃KB,Hid (kB l r da (gX v) (gX m)=KB):=⟨_,rfl⟩
 obtain⟨SB,aC⟩:∃SB,Hid (dq KB=SB):=⟨_,rfl⟩
 have HC:Hid (∀V,Jb V (K (E w)) L da n k m v l r->WQ W2 V->WT prog 122 #[WY #[Z .u32 da,Z Y n],Z Y l,Z Y r,WY #[H k,H m,H v]] V λe F=>e=WZ (H KB)/\Jb F (K (E w)) L da n k m v l r/\WQ W2 F):=λV hJ hB=>by
  have h:=tB da n l r k m v V hj (by omega) hm hv;rw[cS ao] at h;exact h.mono λe F ⟨he,hb⟩=>⟨he,hJ.below hb,hB.trans (hb.mono hB.size)⟩
 have HS:Hid (∀V,Jb V (K (E w)) L da n k m v l r->WQ W2 V->WT prog 121 #[H KB] V λe F=>e=WZ (H SB)/\Jb F (K (E w)) L da n k m v l r/\WQ W2 F):=λV hJ hB=>by
  have h:=po KB V (by rw[<-cS ao,l5];omega);rw[cS aC] at h;exact h.mono λe F ⟨he,hb⟩=>⟨he,hJ.below hb,hB.trans (hb.mono hB.size)⟩
 have aW:Hid (∀(args:Array WS) (w:WR),(callFunc 122 args).run prog w=.ok (.enter 122 args) w):=cZ func122 (by kernel_rfl) (by kernel_rfl);have aX:Hid (∀(args:Array WS) (w:WR),(callFunc 121 args).run prog w=.ok (.enter 121 args) w):=cZ func121 (by kernel_rfl) (by kernel_rfl);obtain⟨⟨j0,j1⟩,⟨s0,s1,s2⟩,c0,c1,c2⟩:=HJ;apply wB (λF=>Jb F (K (E w)) L da n k m v l r/\WQ W2 F);apply Exists.intro;apply And.intro
 case left =>
  have ae:WQ W2 W2.drew:=WO.drew
  go_region_held3 (λF=>(F.cell? ⟨K (E w),0,U⟩=S (Z .u32 da)/\F.cell? ⟨K (E w),1,U⟩=S (Z Y n))/\
   (F.cell? ⟨K (E w)+1,0,U⟩=S (H k)/\F.cell? ⟨K (E w)+1,1,U⟩=S (H m)/\F.cell? ⟨K (E w)+1,2,U⟩=S (H v))/\
   (F.cell? ⟨L,0,U⟩=S (Z Y l)/\F.cell? ⟨L,1,U⟩=S (J U 0 0)/\F.cell? ⟨L,2,U⟩=S (Z Y r)))
   (first|(go_keep;done)|(exact⟨⟨by assumption,by assumption⟩,⟨by assumption,by assumption,by assumption⟩,by assumption,by assumption,by assumption⟩))
   (first
    |(go_at_call 122;refine((cS HC) _ (by exact⟨⟨by assumption,by assumption⟩,⟨by assumption,by assumption,by assumption⟩,by assumption,by assumption,by assumption⟩) (by assumption)).mono ?_;rintro e w5 ⟨rfl,⟨⟨bn,bo⟩,⟨bp,bq,br⟩,bs,c51,bu⟩,bw⟩)
    |(go_at_call 121;refine((cS HS) _ (by exact⟨⟨by assumption,by assumption⟩,⟨by assumption,by assumption,by assumption⟩,by assumption,by assumption,by assumption⟩) (by assumption)).mono ?_;rintro e Q ⟨rfl,⟨⟨aY,aZ⟩,⟨a1,a6,a7⟩,a8,ba,bc⟩,o⟩))
  all_goals exact⟨O,O,⟨⟨aY,aZ⟩,⟨a1,a6,a7⟩,a8,ba,bc⟩,o⟩
 case right =>
 rintro Q ⟨aL,o⟩;clear j0 j1 s0 s1 s2 c0 c1 c2 HC HS aW aX;have af:=aB.trans (o.mono aB.size);have u:=(o.block _ (cV (cS E3))).trans (cS E3);have aq:=(o.block _ (cV (cS EL))).trans (cS EL);clear o aB E3 EL;have M:Hid (∀W,WQ w W->¬Good da n k m v l r->j (WZ (WX #[WY gH,WW W9])) W):=λW hb hg=>by
  rw[<-cS hO];exact⟨hb,λh=>absurd h hg,λ_=>⟨0,0,O⟩⟩
 by_cases ag:k=SB
 .have ah:(!k.toList == SB.toList)=W9:=by rw[ag];simp
  have bd:IntKind.i64.wrap ((n:Int)*9)=((9*n:Nat):Int):=by rw[Uy];omega
  have aM:IntKind.i64.wrap ((n:Int)*12)=((12*n:Nat):Int):=by rw[Uy];omega
  have ai:=cT (λW=>nJ v (9*n) W (by omega) (by omega));have g:=cT (λW=>nJ m (12*n) W (by omega) (by omega));obtain⟨bv,aD⟩:∃b,Hid ((okB v&&decide ((dx v).size=9*n))=b):=⟨_,rfl⟩
  obtain⟨bm,aE⟩:∃b,Hid ((okB m&&decide ((dx m).size=12*n))=b):=⟨_,rfl⟩
  rw[cS aD] at ai;rw[cS aE] at g;obtain⟨PV,ar⟩:∃P,Hid (dx v=P):=⟨_,rfl⟩
  obtain⟨PM,aF⟩:∃P,Hid (dx m=P):=⟨_,rfl⟩
  rw[cS ar] at ai;rw[cS aF] at g;obtain⟨nv,bg⟩:∃x,Hid (9*n=x):=⟨_,rfl⟩
  obtain⟨bx,bh⟩:∃x,Hid (12*n=x):=⟨_,rfl⟩
  rw[cS bg] at ai bd;rw[cS bh] at g aM;obtain⟨⟨j0,j1⟩,⟨s0,s1,s2⟩,c0,c1,c2⟩:=aL;have bj:=cT ag;clear ag;simp only[ah];clear ah;go_wp2_with fail;refine((cS ai) Q).mono ?_;rintro e T ⟨rfl,aa⟩;have aj:=af.trans (aa.mono af.size);have y:=(aa.block _ (cV u)).trans u;have au:=(aa.block _ (cV aq)).trans aq;have j7:T.cell? ⟨K (E w),1,U⟩=S (Z Y n):=(aa.cell (Ui Q _ j1)).trans j1;have s7:T.cell? ⟨K (E w)+1,1,U⟩=S (H m):=(aa.cell (Ui Q _ s1)).trans s1;clear j0 j1 s0 s1 s2 c0 c1 c2 aa af u aq ai;cases bv with
  |false =>
   have HF:Hid (j (WZ (WX #[WY gH,WW W9])) (((T.setCell ⟨K (E w)+1+1,0,U⟩ (Z Y 0)).setCell ⟨K (E w)+1+1,1,U⟩ (J U 0 0)).setCell ⟨K (E w)+1+1,2,U⟩ (Z Y 0))):=(cS M) _ (((aj.setCell (p:=⟨K (E w)+1+1,0,U⟩) (Wi _ 2) _).setCell (p:=⟨K (E w)+1+1,1,U⟩) (Wi _ 2) _).setCell (p:=⟨K (E w)+1+1,2,U⟩) (Wi _ 2) _) (λhg=>by have:=cS aD;rw[hg.2.1.1,hg.2.1.2] at this;simp at this);have r0:T.cell? ⟨K (E w)+1+1,0,U⟩=S (Z Y 0):=by rw[T5 T _ 0 _ _ _ y];rfl
   have r1:T.cell? ⟨K (E w)+1+1,1,U⟩=S (J U 0 0):=by rw[T5 T _ 1 _ _ _ y];rfl
   have r2:T.cell? ⟨K (E w)+1+1,2,U⟩=S (Z Y 0):=by rw[T5 T _ 2 _ _ _ y];rfl
   have g0:T.frozen? ⟨K (E w)+1+1,0,U⟩=W9:=by simp[World.frozen?,y]
   have g1:T.frozen? ⟨K (E w)+1+1,1,U⟩=W9:=by simp[World.frozen?,y]
   have g2:T.frozen? ⟨K (E w)+1+1,2,U⟩=W9:=by simp[World.frozen?,y]
   clear aj M y au g;go_wp2;exact T8 (v := WX #[WY gH,WW W9]) (by simp[results,results80,go_sem,r0,r1,r2,gH]) O (cS HF)
  |true =>
  go_wp2_with fail;refine((cS g) T).mono ?_;rintro e N ⟨rfl,ak⟩;have ab:=aj.trans (ak.mono aj.size);have B:=(ak.block _ (cV y)).trans y;have av:=(ak.block _ (cV au)).trans au;have j8:N.cell? ⟨K (E w),1,U⟩=S (Z Y n):=(ak.cell (Ui T _ j7)).trans j7;clear j7 s7 ak aj y au g;cases bm with
  |false =>
   have HF:Hid (j (WZ (WX #[WY gH,WW W9])) (((N.setCell ⟨K (E w)+1+1,0,U⟩ (Z Y 0)).setCell ⟨K (E w)+1+1,1,U⟩ (J U 0 0)).setCell ⟨K (E w)+1+1,2,U⟩ (Z Y 0))):=(cS M) _ (((ab.setCell (p:=⟨K (E w)+1+1,0,U⟩) (Wi _ 2) _).setCell (p:=⟨K (E w)+1+1,1,U⟩) (Wi _ 2) _).setCell (p:=⟨K (E w)+1+1,2,U⟩) (Wi _ 2) _) (λhg=>by have:=cS aE;rw[hg.2.2.1.1,hg.2.2.1.2] at this;simp at this);have r0:N.cell? ⟨K (E w)+1+1,0,U⟩=S (Z Y 0):=by rw[T5 N _ 0 _ _ _ B];rfl
   have r1:N.cell? ⟨K (E w)+1+1,1,U⟩=S (J U 0 0):=by rw[T5 N _ 1 _ _ _ B];rfl
   have r2:N.cell? ⟨K (E w)+1+1,2,U⟩=S (Z Y 0):=by rw[T5 N _ 2 _ _ _ B];rfl
   have g0:N.frozen? ⟨K (E w)+1+1,0,U⟩=W9:=by simp[World.frozen?,B]
   have g1:N.frozen? ⟨K (E w)+1+1,1,U⟩=W9:=by simp[World.frozen?,B]
   have g2:N.frozen? ⟨K (E w)+1+1,2,U⟩=W9:=by simp[World.frozen?,B]
   clear ab M B av;go_wp2;exact T8 (v := WX #[WY gH,WW W9]) (by simp[results,results80,go_sem,r0,r1,r2,gH]) O (cS HF)
  |true =>
  have aG:okB v=W8/\(dx v).size=9*n:=by have:=cS aD;simpa using this
  have aH:okB m=W8/\(dx m).size=12*n:=by have:=cS aE;simpa using this
  have aN:=cT (sL PV PM n N hn (by show _=_;rw[<-cS ar];exact aG.2) (by show _=_;rw[<-cS aF];exact aH.2));have aI:Hid (Good da n k m v l r↔∀i,i<n->bt PV (9*i+8)<=1):=by
   show _↔_
   rw[<-cS ar];exact⟨λh=>h.2.2.2,λh=>⟨by rw[cS ao,cS aC];exact cS bj,aG,aH,h⟩⟩
  clear aG aH;go_wp2_with fail;refine(cS aN).mono ?_;rintro e C ⟨ae,ay,aO⟩;have aP:=ab.trans (ae.mono ab.size);have G:=(ae.block _ (cV B)).trans B;have ad:=(ae.block _ (cV av)).trans av;obtain⟨R,hR⟩:∃R,K (E w)+1+1=R:=⟨_,rfl⟩
  rw[hR] at G;have aQ:R≠L:=by omega
  have aw:K (E w)<=R:=by omega
  have aR:K (E w)<=L:=by omega
  have aS:Hid (∃(q:Option Addr) (nn X:Nat) (ok:Bool),e=WZ (WX #[J q nn X,WW ok])/\Hid (j (WZ (WX #[WY #[Z Y l,J q nn X,Z Y r],WW ok])) ((((C.setCell ⟨L,1,U⟩ (J q nn X)).setCell ⟨R,0,U⟩ (Z Y l)).setCell ⟨R,1,U⟩ (J q nn X)).setCell ⟨R,2,U⟩ (Z Y r)))):=by
   show ∃_,_
   have aT:∀s:WS,WQ w ((((C.setCell ⟨L,1,U⟩ s).setCell ⟨R,0,U⟩ (Z Y l)).setCell ⟨R,1,U⟩ s).setCell ⟨R,2,U⟩ (Z Y r)):=λs =>
    (((aP.setCell (p:=⟨L,1,U⟩) aR _).setCell (p:=⟨R,0,U⟩) aw _).setCell (p:=⟨R,1,U⟩) aw _).setCell (p:=⟨R,2,U⟩) aw _
   by_cases hr:∀i,i<n->bt PV (9*i+8)<=1
   .obtain⟨sl,rfl,ho⟩:=ay hr;obtain⟨q,X,rfl⟩:=lO ho;refine⟨q,n,X,W8,O,?_⟩
    show j _ _
    rw[<-cS hO];refine⟨aT _,λ_=>⟨_,O,?_⟩,λh=>absurd ((cS aI).2 hr) h⟩;have ax:∀(W:WR) (A i:Nat) (x:WS) (c:Array WS),W.heap[A]?=S (D c 80 (0,0))->∀{xs:List WS},W.ownsRow (K (E N)) 104 4 (J q n X) n xs->(W.setCell ⟨A,i,U⟩ x).ownsRow (K (E N)) 104 4 (J q n X) n xs:=λW A i x c hA xs hx =>
     U1 hx (λe=>by obtain⟨z,hz,_⟩:=dh hx e;exact de hz hA (by decide) O) _
    have hh:K (E w)<=K (E N):=ab.size;rw[cS ar,cS aF];refine Rd.lA ?_ hh;have o1:=ax C L 1 (J q n X) _ ad ho;have E1:(C.setCell ⟨L,1,U⟩ (J q n X)).heap[R]?=_:=(Uj _ _ _ _ (λe=>aQ e)).trans G;have o2:=ax _ R 0 (Z Y l) _ E1 o1;have E2:=Ue _ R 0 _ _ (Z Y (l:Int)) E1;have o3:=ax _ R 1 (J q n X) _ E2 o2;have E3:=Ue _ R 1 _ _ (J q n X) E2;exact ax _ R 2 (Z Y r) _ E3 o3
   .obtain rfl:=aO hr;refine⟨U,0,0,W9,O,?_⟩
    show j _ _
    rw[<-cS hO];exact⟨aT _,λh=>absurd ((cS aI).1 h) hr,λ_=>⟨_,_,O⟩⟩
  clear ay aO ae ab aP aN aI M B av j8;obtain⟨q,nn,X,ok,rfl,HF⟩:=cS aS;clear aS;have r0:C.cell? ⟨R,0,U⟩=S (Z Y 0):=by rw[T5 C _ 0 _ _ _ G];rfl
  have r1:C.cell? ⟨R,1,U⟩=S (J U 0 0):=by rw[T5 C _ 1 _ _ _ G];rfl
  have r2:C.cell? ⟨R,2,U⟩=S (Z Y 0):=by rw[T5 C _ 2 _ _ _ G];rfl
  have l0:C.cell? ⟨L,0,U⟩=S (Z Y l):=by rw[T5 C _ 0 _ _ _ ad];rfl
  have l1:C.cell? ⟨L,1,U⟩=S (J U 0 0):=by rw[T5 C _ 1 _ _ _ ad];rfl
  have l2:C.cell? ⟨L,2,U⟩=S (Z Y r):=by rw[T5 C _ 2 _ _ _ ad];rfl
  have g0:C.frozen? ⟨R,0,U⟩=W9:=by simp[World.frozen?,G]
  have g1:C.frozen? ⟨R,1,U⟩=W9:=by simp[World.frozen?,G]
  have g2:C.frozen? ⟨R,2,U⟩=W9:=by simp[World.frozen?,G]
  have f1:C.frozen? ⟨L,1,U⟩=W9:=by simp[World.frozen?,ad]
  rw[hR];clear G ad hR aw aR aV;go_wp2;exact T8 (v := WX #[WY #[Z Y l,J q nn X,Z Y r],WW ok]) (by simp[results,results80,go_sem,r0,r1,r2,l0,l1,l2,aQ]) O (cS HF)
 .have ah:(!k.toList == SB.toList)=W8:=by rw[Uh.2 (λh=>ag (Sd.toList_inj h))];rfl
  simp only[ah];clear ah;have HF:Hid (j (WZ (WX #[WY gH,WW W9])) (((Q.setCell ⟨K (E w)+1+1,0,U⟩ (Z Y 0)).setCell ⟨K (E w)+1+1,1,U⟩ (J U 0 0)).setCell ⟨K (E w)+1+1,2,U⟩ (Z Y 0))):=(cS M) _ (((af.setCell (p:=⟨K (E w)+1+1,0,U⟩) (Wi _ 2) _).setCell (p:=⟨K (E w)+1+1,1,U⟩) (Wi _ 2) _).setCell (p:=⟨K (E w)+1+1,2,U⟩) (Wi _ 2) _) (λhg=>ag (by rw[hg.1,cS ao,cS aC]));have r0:Q.cell? ⟨K (E w)+1+1,0,U⟩=S (Z Y 0):=by rw[T5 Q _ 0 _ _ _ u];rfl
  have r1:Q.cell? ⟨K (E w)+1+1,1,U⟩=S (J U 0 0):=by rw[T5 Q _ 1 _ _ _ u];rfl
  have r2:Q.cell? ⟨K (E w)+1+1,2,U⟩=S (Z Y 0):=by rw[T5 Q _ 2 _ _ _ u];rfl
  have g0:Q.frozen? ⟨K (E w)+1+1,0,U⟩=W9:=by simp[World.frozen?,u]
  have g1:Q.frozen? ⟨K (E w)+1+1,1,U⟩=W9:=by simp[World.frozen?,u]
  have g2:Q.frozen? ⟨K (E w)+1+1,2,U⟩=W9:=by simp[World.frozen?,u]
  clear aL af M u aq;go_wp2;exact T8 (v := WX #[WY gH,WW W9]) (by simp[results,results80,go_sem,r0,r1,r2,gH]) O (cS HF)
end Ru
namespace Ru
open Sp (nG lW gX bt dq dx okB)
open Rd (Rk)
open Pk (iV Sm dh cV de)
theorem Mw{Q:Rk}{n b:Nat}(h:Sm Q n b)(a:WU):(Q.rd a).size<=b:=by
 unfold Rk.rd;split
 .exact Ud _
 .cases Rd.dy Q.now a with
  |none=>exact Ud _
  |some i=>exact h.fl i
abbrev Ly(F:WU->WU)(n b:Nat):List WS:=jg (fp F n b).val (fp F n b).fC (fp F n b).iI (fp F n b).jf n
def Dx(Q:Rk)(n da:Nat)(a:WU)(w:WR)(e:Ending)(w':WR):Prop:=WQ w w'/\
 (∀b,Gf Q.rd n da a b->∃sl,e=WZ (WX #[WY #[Z Y b,sl,Z Y (fp Q.rd n b).all],WW W8])/\w'.ownsRow (K (E w)) 104 4 sl n (Ly Q.rd n b))/\
 ((∀b,¬Gf Q.rd n da a b)->∃s j:Int,e=WZ (WX #[WY #[Z Y s,J U 0 0,Z Y j],WW W9]))
def Fb(W:WR)(b e L da n j:Nat):Prop:=(W.cell? ⟨b,0,U⟩=S (WV (S ⟨e,0,U⟩))/\W.cell? ⟨b,1,U⟩=S (Z .u32 da)/\W.cell? ⟨b,2,U⟩=S (Z Y n))/\W.cell? ⟨L,0,U⟩=S (Z Y j)
theorem Fb.below{W j:WR}{b e L da n l:Nat}(h:Fb W b e L da n l)(hb:WQ W j):Fb j b e L da n l:=by
 obtain⟨⟨r,u,y⟩,z⟩:=h;have f:∀{p:Addr} {x:WS},W.cell? p=S x->j.cell? p=S x:=λ{p x} m=>(hb.cell (Ui W _ m)).trans m
 exact⟨⟨f r,f u,f y⟩,f z⟩
theorem Lf(j l E nn b da n:Nat)(Q R:Rk)(O:Nat->Prop)(a:WU)(w:WR)(h:iV w l E Q R O)(hs:Sm Q nn b)(aJ:nn<=1000000000)(G:b<=2097152)(hn:n<=64)(hj:da<4294967296)(aF:fI w)(c0:w.cell? ⟨j,0,U⟩=S (WV (S ⟨l,0,U⟩)))(c1:w.cell? ⟨j,1,U⟩=S (Z .u32 da))(c2:w.cell? ⟨j,2,U⟩=S (Z Y n)):WT prog 45 #[WV (S ⟨j,0,U⟩),H a] w (Dx Q n da a w):=by
 generalize hO:Dx Q n da a w=O';replace hO:=cT hO;have an:Hid (∀(W:WR) (y:WU),WQ w W->WT prog 77 #[WV (S ⟨j,0,U⟩),H y] W λe C=>e=WZ (H (Q.rd y))/\WQ W C):=λW y hW =>
  A7 j l E nn b Q R O y W (h.below hW) hs aJ ((hW.cell (Ui w _ c0)).trans c0)
 have ae:=cT (λy=>Mw hs y);have af:Hid (∀W,WQ w W->(∀F,¬Gf Q.rd n da a F)->∀s ax:Int,O' (WZ (WX #[WY #[Z Y s,J U 0 0,Z Y ax],WW W9])) W):=λW hb hg s ax=>by
  rw[<-cS hO];exact⟨hb,λF h=>absurd h (hg F),λ_=>⟨s,ax,rfl⟩⟩
 have ao:=cT aF;have C0:=cT c0;have C1:=cT c1;have C2:=cT c2;have aG:Hid (∀W,W=w.alloc (D gH 80)->W.heap[w.heap.size]?=S (D gH 80 (0,0))/\WQ w W):=by
  show ∀W,_
  rintro W rfl;exact⟨T9 w _,(T4 _ w).alloc WN _⟩
 clear h hs aF c0 c1 c2;go_enter func45,ntmps45;go_wp2_with fail;generalize hW:Xe _ _=W0;obtain⟨ay,aq⟩:=cS aG W0 hW.symm;clear hW aG;refine((cS an) W0 a aq).mono ?_;rintro e w1 ⟨rfl,az⟩;have E1:=(az.block _ (cV ay)).trans ay;have ag:=aq.trans (az.mono aq.size);clear az aq ay;have sK:=(cS ae) a;by_cases X:okB (Q.rd a)=W8/\(dx (Q.rd a)).size=24
 .obtain⟨F,t⟩:∃F,Hid (num (dx (Q.rd a)) 0 4=F):=⟨_,rfl⟩
  obtain⟨al,ah⟩:∃al,Hid (pR (num (dx (Q.rd a)) 4 8)=al):=⟨_,rfl⟩
  have T:=cT (rW (Q.rd a) w1 (by omega) X.1 X.2);have ar:=cT X;rw[cS t,cS ah] at T;obtain⟨m,HK⟩:∃m,Hid (Q.rd a=m):=⟨_,rfl⟩
  rw[cS HK] at T t ah ar sK ⊢;clear X;go_wp2_with fail;refine(cS T).mono ?_;rintro e w2 ⟨rfl,G⟩;have hA:WQ w2 (w2.alloc (D #[Z Y F,J U 0 0,Z Y al] 80)):=WO.alloc WN _;have ai:=T9 w2 (D #[Z Y F,J U 0 0,Z Y al] 80);have o:=G.trans (hA.mono G.size);have g:=(o.block _ (cV E1)).trans E1;have I:=ag.trans (o.mono ag.size);have aK:w.heap.size<w2.heap.size:=Ux (cV E1) G.size;clear T G hA o E1 ag;go_upto_region 3 with fail;obtain⟨L,hL⟩:∃L,w2.heap.size=L:=⟨_,rfl⟩
  rw[hL] at ai aK;generalize aL:Xe _ _=w3 at g I ai ⊢;clear aL
  try rw[hL]
  clear hL;have aW:F<4294967296:=by rw[<-cS t];exact gW _ 4 0
  have l0:w3.cell? ⟨L,0,U⟩=S (Z Y F):=by rw[T5 w3 _ 0 _ _ _ ai];rfl
  have aA:=cT (kN F w3 (by omega) ((cS ao).below I));obtain⟨N,HN⟩:∃N,Hid (nm 99 F=N):=⟨_,rfl⟩
  rw[cS HN] at aA;go_wp2_with fail;refine(cS aA).mono ?_;rintro e w4 ⟨rfl,au⟩;have E4:=(au.block _ (cV g)).trans g;have aB:=(au.block _ (cV ai)).trans ai;have aa:=I.trans (au.mono I.size);clear au g ai I l0 aA;by_cases aj:N=a
  .have aH:=cT aj;have hz:(N.toList == a.toList)=W8:=Vi.2 (by rw[aj]);clear aj;obtain⟨N1,ak⟩:∃N,Hid (nm 109 F=N):=⟨_,rfl⟩
   obtain⟨N2,ab⟩:∃N,Hid (nm 118 F=N):=⟨_,rfl⟩
   obtain⟨M,HM⟩:∃N,Hid (Q.rd N1=N):=⟨_,rfl⟩
   obtain⟨V,HV⟩:∃N,Hid (Q.rd N2=N):=⟨_,rfl⟩
   have sM:M.size<=4194304:=by rw[<-cS HM];have:=(cS ae) N1;omega
   have sV:V.size<=4194304:=by rw[<-cS HV];have:=(cS ae) N2;omega
   have av:Hid (∀s,Gf Q.rd n da a s↔s=F/\Good da n m M V F al):=λs=>by
    obtain⟨k1,k2⟩:=cS ar;constructor
    .rintro⟨h1,h2,h3,h4,h5,h6,h7,h8,h9,aC⟩;rw[cS HK,cS t] at h3;subst h3;rw[cS ab] at h5 h6 h7 aC;rw[cS ak] at h5 h8 h9;rw[cS HK,cS ah,cS HM,cS HV] at h5;rw[cS HV] at h6 h7 aC;rw[cS HM] at h8 h9;exact⟨rfl,h5,⟨h6,h7⟩,⟨h8,h9⟩,aC⟩
    .rintro⟨rfl,g1,⟨g2,g3⟩,⟨g4,g5⟩,g6⟩;refine⟨by rw[cS HK];exact k1,by rw[cS HK];exact k2,by rw[cS HK,cS t],by rw[cS HN];exact cS aH,?_,?_,?_,?_,?_,?_⟩
     .rw[cS ak,cS ab,cS HK,cS ah,cS HM,cS HV];exact g1
     .rw[cS ab,cS HV];exact g2
     .rw[cS ab,cS HV];exact g3
     .rw[cS ak,cS HM];exact g4
     .rw[cS ak,cS HM];exact g5
     .rw[cS ab,cS HV];exact g6
   have aM:Fb w4 j l L da n F:=⟨⟨(aa.cell (Ui w _ (cS C0))).trans (cS C0),(aa.cell (Ui w _ (cS C1))).trans (cS C1),(aa.cell (Ui w _ (cS C2))).trans (cS C2)⟩,by rw[T5 w4 _ 0 _ _ _ aB];rfl⟩
   have aX:Hid (WQ w w4.drew/\w4.drew.heap[w.heap.size]?=S (D gH 80 (0,0))):=⟨aa.drew,E4⟩
   have ad:∀{W W':WR},Fb W j l L da n F->Hid (WQ w W/\W.heap[w.heap.size]?=S (D gH 80 (0,0)))->WQ W W'->Fb W' j l L da n F/\Hid (WQ w W'/\W'.heap[w.heap.size]?=S (D gH 80 (0,0))):=λ{W W'} hF P hB=>⟨hF.below hB,(cS P).1.trans (hB.mono (cS P).1.size),(hB.block _ (cV (cS P).2)).trans (cS P).2⟩
   have aN:Hid (∀W,Fb W j l L da n F->Hid (WQ w W/\W.heap[w.heap.size]?=S (D gH 80 (0,0)))->WT prog 81 #[Z Y F] W λe C=>e=WZ (H N1)/\Fb C j l L da n F/\Hid (WQ w C/\C.heap[w.heap.size]?=S (D gH 80 (0,0)))):=λW hF P=>by
    have h:=iW F W (by omega) ((cS ao).below (cS P).1);rw[cS ak] at h;exact h.mono λe C ⟨he,hb⟩=>⟨he,ad hF P hb⟩
   have aO:Hid (∀W,Fb W j l L da n F->Hid (WQ w W/\W.heap[w.heap.size]?=S (D gH 80 (0,0)))->WT prog 82 #[Z Y F] W λe C=>e=WZ (H N2)/\Fb C j l L da n F/\Hid (WQ w C/\C.heap[w.heap.size]?=S (D gH 80 (0,0)))):=λW hF P=>by
    have h:=kO F W (by omega) ((cS ao).below (cS P).1);rw[cS ab] at h;exact h.mono λe C ⟨he,hb⟩=>⟨he,ad hF P hb⟩
   have aP:Hid (∀(W:WR) (y r:WU),Hid (Q.rd y=r)->Fb W j l L da n F->Hid (WQ w W/\W.heap[w.heap.size]?=S (D gH 80 (0,0)))->WT prog 77 #[WV (S ⟨j,0,U⟩),H y] W λe C=>e=WZ (H r)/\Fb C j l L da n F/\Hid (WQ w C/\C.heap[w.heap.size]?=S (D gH 80 (0,0)))):=λW y r hz hF P=>by
    have h:=(cS an) W y (cS P).1;rw[cS hz] at h;exact h.mono λe C ⟨he,hb⟩=>⟨he,ad hF P hb⟩
   have aQ:j≠w.heap.size:=Nat.ne_of_lt (Ui w _ (cS C0));have aR:L≠w.heap.size:=by omega
   have aD:∀{W:WR},Fb W j l L da n F->∀x y z:WS,Fb (((W.setCell ⟨w.heap.size,0,U⟩ x).setCell ⟨w.heap.size,1,U⟩ y).setCell ⟨w.heap.size,2,U⟩ z) j l L da n F:=λ{W} hF x y z=>by
    have f1:∀{W:WR} (i:Nat) (u:WS),Fb W j l L da n F->Fb (W.setCell ⟨w.heap.size,i,U⟩ u) j l L da n F:=λ{W} i u hF=>by
     obtain⟨⟨a1,a2,a3⟩,c1⟩:=hF;have eS:=Uj W ⟨w.heap.size,i,U⟩ u j aQ;have eL:=Uj W ⟨w.heap.size,i,U⟩ u L aR;exact⟨⟨(Vs (w:=W) eS).trans a1,(Vs (w:=W) eS).trans a2,(Vs (w:=W) eS).trans a3⟩,(Vs (w:=W) eL).trans c1⟩
    exact f1 2 z (f1 1 y (f1 0 x hF))
   have aS:Hid (∀W,Fb W j l L da n F->Hid (WQ w W/\W.heap[w.heap.size]?=S (D gH 80 (0,0)))->WT prog 80 #[WY #[Z .u32 da,Z Y n],WY #[H m,H M,H V]] W λe C=>∃(s:Int) (q:Option Addr) (qn cq:Nat) (a':Int) (ok:Bool),e=WZ (WX #[WY #[Z Y s,J q qn cq,Z Y a'],WW ok])/\(Fb C j l L da n F/\Fb (((C.setCell ⟨w.heap.size,0,U⟩ (Z Y s)).setCell ⟨w.heap.size,1,U⟩ (J q qn cq)).setCell ⟨w.heap.size,2,U⟩ (Z Y a')) j l L da n F)/\(C.cell? ⟨w.heap.size,0,U⟩=S (Z Y 0)/\C.cell? ⟨w.heap.size,1,U⟩=S (J U 0 0)/\C.cell? ⟨w.heap.size,2,U⟩=S (Z Y 0))/\(C.frozen? ⟨w.heap.size,0,U⟩=W9/\C.frozen? ⟨w.heap.size,1,U⟩=W9/\C.frozen? ⟨w.heap.size,2,U⟩=W9)/\Hid (O' (WZ (WX #[WY #[Z Y s,J q qn cq,Z Y a'],WW ok])) (((C.setCell ⟨w.heap.size,0,U⟩ (Z Y s)).setCell ⟨w.heap.size,1,U⟩ (J q qn cq)).setCell ⟨w.heap.size,2,U⟩ (Z Y a')))):=λW aw P=>by
    obtain⟨k1,k2⟩:=cS ar;refine(wy da n m M V F al W hn hj (by omega) sM sV k1 k2 (cS t) (cS ah)).mono ?_;rintro e C ⟨hb,hy,aT⟩;have hE:=(hb.block _ (cV (cS P).2)).trans (cS P).2;have aU:=(cS P).1.trans (hb.mono (cS P).1.size);have aI:∀x y z:WS,WQ w (((C.setCell ⟨w.heap.size,0,U⟩ x).setCell ⟨w.heap.size,1,U⟩ y).setCell ⟨w.heap.size,2,U⟩ z):=λx y z =>
     ((aU.setCell (p:=⟨w.heap.size,0,U⟩) WN _).setCell (p:=⟨w.heap.size,1,U⟩) WN _).setCell (p:=⟨w.heap.size,2,U⟩) WN _
    have hc:(C.cell? ⟨w.heap.size,0,U⟩=S (Z Y 0)/\C.cell? ⟨w.heap.size,1,U⟩=S (J U 0 0)/\C.cell? ⟨w.heap.size,2,U⟩=S (Z Y 0)):=⟨by rw[T5 C _ 0 _ _ _ hE];rfl,by rw[T5 C _ 1 _ _ _ hE];rfl,by rw[T5 C _ 2 _ _ _ hE];rfl⟩
    have hf:(C.frozen? ⟨w.heap.size,0,U⟩=W9/\C.frozen? ⟨w.heap.size,1,U⟩=W9/\C.frozen? ⟨w.heap.size,2,U⟩=W9):=⟨by simp[World.frozen?,hE],by simp[World.frozen?,hE],by simp[World.frozen?,hE]⟩
    by_cases hg:Good da n m M V F al
    .obtain⟨sl,rfl,ho⟩:=hy hg;obtain⟨q,cq,rfl⟩:=lO ho;refine⟨_,q,n,cq,al,W8,rfl,⟨aw.below hb,aD (aw.below hb) _ _ _⟩,hc,hf,?_⟩
     show O' _ _
     rw[<-cS hO];refine⟨aI _ _ _,λs hs=>?_,λh=>absurd ((cS av F).2 ⟨rfl,hg⟩) (h F)⟩;obtain⟨rfl,_⟩:=(cS av s).1 hs;have ea:(fp Q.rd n s).all=al:=by rw[sr,cS HN,cS aH,cS HK,cS ah]
     refine⟨_,by rw[ea],?_⟩;have ev:Ly Q.rd n s=jg (gC (dx V) (dx M) ⟨#[]⟩ n).val (gC (dx V) (dx M) ⟨#[]⟩ n).fC (gC (dx V) (dx M) ⟨#[]⟩ n).iI (gC (dx V) (dx M) ⟨#[]⟩ n).jf n:=by
      unfold Ly fp;rw[cS ak,cS ab,cS HM,cS HV]
      rfl
     rw[ev];have aE:∀(W:WR) (A i:Nat) (x:WS) (c:Array WS),W.heap[A]?=S (D c 80 (0,0))->∀{B:Nat} {xs:List WS},W.ownsRow B 104 4 (J q n cq) n xs->(W.setCell ⟨A,i,U⟩ x).ownsRow B 104 4 (J q n cq) n xs:=λW A i x c hA B xs hx =>
      U1 hx (λe=>by obtain⟨z,hz,_⟩:=dh hx e;exact de hz hA (by decide) rfl) _
     refine Rd.lA ?_ (cS P).1.size;have o2:=aE _ w.heap.size 0 (Z Y (s:Int)) _ hE ho;have E2:=Ue _ w.heap.size 0 _ _ (Z Y (s:Int)) hE;have o3:=aE _ w.heap.size 1 (J q n cq) _ E2 o2;have g:=Ue _ w.heap.size 1 _ _ (J q n cq) E2;exact aE _ w.heap.size 2 (Z Y al) _ g o3
    .obtain⟨s,a',rfl⟩:=aT hg;refine⟨s,U,0,0,a',W9,rfl,⟨aw.below hb,aD (aw.below hb) _ _ _⟩,hc,hf,?_⟩;exact(cS af) _ (aI _ _ _) (λs hs=>hg ((cS av s).1 hs).2) s a'
   clear ad af an ae av aa E4 aB C0 C1 C2 ao ar aD;obtain⟨⟨j0,j1,j2⟩,l0⟩:=aM;go_upto_region 5 with fail
   go_region_held3 (λC=>(C.cell? ⟨j,0,U⟩=S (WV (S ⟨l,0,U⟩))/\C.cell? ⟨j,1,U⟩=S (Z .u32 da)/\C.cell? ⟨j,2,U⟩=S (Z Y n))/\C.cell? ⟨L,0,U⟩=S (Z Y F))
    (exact⟨⟨by assumption,by assumption,by assumption⟩,by assumption⟩)
    (first
     |(go_at_call 81;refine((cS aN) _ (by exact⟨⟨by assumption,by assumption,by assumption⟩,by assumption⟩) (by assumption)).mono ?_;rintro e w5 ⟨rfl,⟨⟨aY,aZ,a6⟩,a7⟩,a8⟩)
     |(go_at_call 82;refine((cS aO) _ (by exact⟨⟨by assumption,by assumption,by assumption⟩,by assumption⟩) (by assumption)).mono ?_;rintro e w6 ⟨rfl,⟨⟨ba,bc,bd⟩,bg⟩,bh⟩)
     |(go_at_call 77;refine((cS aP) _ _ _ (by assumption) (by exact⟨⟨by assumption,by assumption,by assumption⟩,by assumption⟩) (by assumption)).mono ?_;rintro e w7 ⟨rfl,⟨⟨bj,bk,bn⟩,bo⟩,bp⟩)
     |(go_at_call 80;refine((cS aS) _ (by exact⟨⟨by assumption,by assumption,by assumption⟩,by assumption⟩) (by assumption)).mono ?_;rintro e w9 ⟨s,q,qn,cq,a',ok,rfl,⟨⟨⟨bq,br,bs⟩,bu⟩,⟨⟨bw,z91,bx⟩,z93⟩⟩,⟨r0,r1,r2⟩,⟨g0,g1,g2⟩,HF⟩))
   all_goals
    go_wp2;exact T8 (v := WX #[WY #[Z Y s,J q qn cq,Z Y a'],WW ok]) (by simp[results,results45,go_sem,r0,r1,r2]) rfl (cS HF)
  .have hz:(N.toList == a.toList)=W9:=Uh.2 (λh=>aj (Sd.toList_inj h));have HF:Hid (O' (WZ (WX #[WY gH,WW W9])) (((w4.setCell ⟨w.heap.size,0,U⟩ (Z Y 0)).setCell ⟨w.heap.size,1,U⟩ (J U 0 0)).setCell ⟨w.heap.size,2,U⟩ (Z Y 0))):=(cS af) _ (((aa.setCell (p:=⟨w.heap.size,0,U⟩) WN _).setCell (p:=⟨w.heap.size,1,U⟩) WN _).setCell (p:=⟨w.heap.size,2,U⟩) WN _) (λs hg=>aj (by have e:=hg.TD;rw[cS HK,cS t] at e;subst e;rw[<-cS HN];exact hg.TE)) 0 0;have r0:w4.cell? ⟨w.heap.size,0,U⟩=S (Z Y 0):=by rw[T5 w4 _ 0 _ _ _ E4];rfl
   have r1:w4.cell? ⟨w.heap.size,1,U⟩=S (J U 0 0):=by rw[T5 w4 _ 1 _ _ _ E4];rfl
   have r2:w4.cell? ⟨w.heap.size,2,U⟩=S (Z Y 0):=by rw[T5 w4 _ 2 _ _ _ E4];rfl
   have g0:w4.frozen? ⟨w.heap.size,0,U⟩=W9:=by simp[World.frozen?,E4]
   have g1:w4.frozen? ⟨w.heap.size,1,U⟩=W9:=by simp[World.frozen?,E4]
   have g2:w4.frozen? ⟨w.heap.size,2,U⟩=W9:=by simp[World.frozen?,E4]
   clear E4 aB aa af an ae aj;go_wp2;exact T8 (v := WX #[WY gH,WW W9]) (by simp[results,results45,go_sem,r0,r1,r2,gH]) rfl (cS HF)
 .have T:=cT (yx (Q.rd a) w1 (by omega) X);have HF:Hid (∀W,WQ w W->O' (WZ (WX #[WY gH,WW W9])) (((W.setCell ⟨w.heap.size,0,U⟩ (Z Y 0)).setCell ⟨w.heap.size,1,U⟩ (J U 0 0)).setCell ⟨w.heap.size,2,U⟩ (Z Y 0))):=λW hW =>
   (cS af) _ (((hW.setCell (p:=⟨w.heap.size,0,U⟩) WN _).setCell (p:=⟨w.heap.size,1,U⟩) WN _).setCell (p:=⟨w.heap.size,2,U⟩) WN _) (λF hg=>X ⟨hg.ok,hg.sz⟩) 0 0
  generalize Q.rd a=m at T ⊢;clear X af sK an ae;go_wp2_with fail;refine(cS T).mono ?_;rintro e w2 ⟨rfl,G⟩;have hA:WQ w2 (w2.alloc (D gH 80)):=WO.alloc WN _;have o:=G.trans (hA.mono G.size);have g:=(o.block _ (cV E1)).trans E1;have I:=ag.trans (o.mono ag.size);clear T G hA o E1 ag;go_upto_region 3 with fail;generalize Xe _ _=w3 at g I ⊢;have aV:=cT ((cS HF) w3 I);have r0:w3.cell? ⟨w.heap.size,0,U⟩=S (Z Y 0):=by rw[T5 w3 _ 0 _ _ _ g];rfl
  have r1:w3.cell? ⟨w.heap.size,1,U⟩=S (J U 0 0):=by rw[T5 w3 _ 1 _ _ _ g];rfl
  have r2:w3.cell? ⟨w.heap.size,2,U⟩=S (Z Y 0):=by rw[T5 w3 _ 2 _ _ _ g];rfl
  have g0:w3.frozen? ⟨w.heap.size,0,U⟩=W9:=by simp[World.frozen?,g]
  have g1:w3.frozen? ⟨w.heap.size,1,U⟩=W9:=by simp[World.frozen?,g]
  have g2:w3.frozen? ⟨w.heap.size,2,U⟩=W9:=by simp[World.frozen?,g]
  clear g I HF;go_wp2;exact T8 (v := WX #[WY gH,WW W9]) (by simp[results,results45,go_sem,r0,r1,r2,gH]) rfl (cS aV)
end Ru
namespace Ru
open Rd (Rk)
open Pk (iV Sm dh cV de)
open Dk (Kept)
open Classical
def Mn(b da n cX:Nat)(v:WS):Array WS := #[WV (S ⟨b,0,U⟩),Z .u32 (da:Int),Z Y (n:Int),Z Y (cX:Int),v]
structure gG (w:WR) (S D da n cX:Nat) (v:WS) (T:Sn.Tb):Prop where
 tab:Rt.eT w S 4 (Mn D da n cX v) 113 v T
 ne:v.ownBlock≠some S
variable {T:Sn.Tb}{w' w:WR}{v:WS}{n da cX:Nat}
theorem gG.below{b e:Nat}(h:gG w b e da n cX v T)(hb:WQ w w'): gG w' b e da n cX v T:=⟨h.tab.below hb,h.ne⟩
theorem gG.c0{b e:Nat}(h:gG w b e da n cX v T): w.cell? ⟨b,0,U⟩=S (WV (S ⟨e,0,U⟩)):=by rw[T5 w b 0 _ _ _ h.tab.blk];rfl
theorem gG.c1{b e:Nat}(h:gG w b e da n cX v T): w.cell? ⟨b,1,U⟩=S (Z .u32 (da:Int)):=by rw[T5 w b 1 _ _ _ h.tab.blk];rfl
theorem gG.c2{b e:Nat}(h:gG w b e da n cX v T): w.cell? ⟨b,2,U⟩=S (Z Y (n:Int)):=by rw[T5 w b 2 _ _ _ h.tab.blk];rfl
theorem gG.c3{b e:Nat}(h:gG w b e da n cX v T): w.cell? ⟨b,3,U⟩=S (Z Y (cX:Int)):=by rw[T5 w b 3 _ _ _ h.tab.blk];rfl
theorem gG.lt{b e:Nat}(h:gG w b e da n cX v T): b<K (E w):=cV h.tab.blk
def qC(b:Nat)(v:WS)(k:Nat):Prop:=k=b\/v.ownBlock=S k
variable {v':WS}
theorem gG.new{b j:Nat}{m:Sn.Tb}(h:gG w b j da n cX v T)(r:Rt.dN w w' b 4 (Mn j da n cX v) 113 v v' m)(u:Sn.di m)(y:Xg m<=1000000000): gG w' b j da n cX v' m:=by
 refine⟨⟨r.blk,O,r.row,u,y⟩,λl=>?_⟩;rcases r.new with e|⟨g,e,z⟩
 .rw[e] at l;exact h.ne l
 .rw[e] at l;have l:g=b:=Ut l;have:=h.lt;omega
theorem gG.kept{b e:Nat}{j:Nat->Prop}(h:gG w b e da n cX v T)(l:Kept w w' j)(m:∀k,qC b v k->j k): gG w' b e da n cX v T:=⟨⟨(l.block b h.lt (m b (Xa O))).trans h.tab.blk,h.tab.at_,Dk.dv h.tab.row l (λg r=>m g (Xb r)),h.tab.me,h.tab.len⟩,h.ne⟩
theorem gG.uA{b j:Nat}{A:Sn.Tb}(h:gG w b j da n cX v T)(C:Rt.dN w w' b 4 (Mn j da n cX v) 113 v v' A){B e size m:Nat}{u:WS}{r:List WS}(hu:w.ownsRow B e size u m r)(he:e≠113/\e≠181): w'.ownsRow B e size u m r:=Dk.dv hu C.kept λg G=>by
  obtain⟨I,y,_⟩:=dh hu G;refine⟨de y h.tab.blk he.1,λM=>?_⟩;obtain⟨z,l,_⟩:=dh h.tab.row M;exact de y l he.2 O
def qi(w:WR)(B:Nat)(F:WU->WU)(n:Nat)(x:Nat × Sn.Ce):Prop:=x.2.n=n/\x.2.al=(fp F n x.1).all/\w.ownsRow B 104 4 (J x.2.p n x.2.c) n (Ly F n x.1)
structure DA (w0:WR) (S D da n cX:Nat) (F:WU->WU) (vL:WS) (L:List WU) (wr:WR) (k:Nat) (v:WS) (T:Sn.Tb):Prop where
 lJ:WQ w0 wr
 sS:K (E w0)<=S
 sh:gG wr S D da n cX v T
 own:∀g,v.ownBlock=some g->K (E w0)<=g
 keys:∀s,(∃e,(s,e)∈T)↔s∈fQ F n da (L.take k)
 Bz:∀x∈T,qi wr (K (E w0)) F n x
 names:wr.ownsRow (K (E w0)) 9 1 vL (Xg L) (Rd.strs L)
 len:Xg T<=k
variable {vL:WS}{k:Nat}{L:List WU}{w0 wr:WR}{F:WU->WU}
theorem DA.below{b e:Nat}(h:DA w0 b e da n cX F vL L wr k v T)(hb:WQ wr w'): DA w0 b e da n cX F vL L w' k v T:=⟨h.lJ.trans (hb.mono h.lJ.size),h.sS,h.sh.below hb,h.own,h.keys,λx j=>⟨(h.Bz x j).1,(h.Bz x j).2.1,dd (h.Bz x j).2.2 hb⟩,dd h.names hb,h.len⟩
theorem DA.no{b e:Nat}(h:DA w0 b e da n cX F vL L wr k v T)(l:k<Xg L)(j:∀m,¬Gf F n da L[k] m): DA w0 b e da n cX F vL L wr (k+1) v T:=by
 refine⟨h.lJ,h.sS,h.sh,h.own,λs=>?_,h.Bz,h.names,by have:=h.len;omega⟩;rw[h.keys,tF l];have:tZ (CM F n da) L[k]=U:=by
  cases r:tZ (CM F n da) L[k] with
  |none=>rfl
  |some t =>
   obtain⟨u,y⟩:=ng r;have:=y.Ta;rw[<-u] at this;exact absurd this (j t)
 rw[this]
theorem L6{b:Nat}{a:WU}(h:Gf F n da a b): tZ (CM F n da) a=S b:=by
 obtain⟨e,j,l⟩:=Nl.1 h;unfold tZ;rw[e];simp only;rw[T0 ⟨j,l⟩]
theorem DA.add{b l:Nat}{y:Nat}{q:Option Addr}{I:Nat}{M:Int}(h:DA w0 b l da n cX F vL L wr k v T)(R:k<Xg L)(i:Xg L<=1000000000)(V:Gf F n da L[k] y)(N:M=(fp F n y).all)(B:wr.ownsRow (K (E w0)) 104 4 (J q n I) n (Ly F n y))(u:Rt.dN wr w' b 4 (Mn l da n cX v) 113 v v' (if Sn.dF T y=W8 then T else Sn.gJ T y ⟨q,n,I,M⟩)): DA w0 b l da n cX F vL L w' (k+1) v' (if Sn.dF T y=W8 then T else Sn.gJ T y ⟨q,n,I,M⟩):=by
 have z:WQ w0 w':=by
  refine h.lJ.trans (u.kept.toBelow h.lJ.size λj f=>⟨λe=>?_,λe=>?_⟩)
  .have:=h.sS;omega
  .have:=h.own j e;omega
 have Q:=h.len;have m:∀s,s∈fQ F n da (L.take (k+1))↔s=y\/s∈fQ F n da (L.take k):=λs=>by
  rw[tF R,L6 V];simp only[Uq,Uz];exact or_comm
 have r:∀x∈T,qi w' (K (E w0)) F n x:=λx C=>⟨(h.Bz x C).1,(h.Bz x C).2.1,h.sh.uA u (h.Bz x C).2.2 (by decide)⟩
 have A:∀g,v'.ownBlock=S g->K (E w0)<=g:=λg G=>by
  rcases u.new with e|⟨W,e,X⟩
  .rw[e] at G;exact h.own g G
  .rw[e] at G;have:W=g:=Ut G;have:=h.lJ.size;omega
 cases hh:Sn.dF T y with
 |true =>
  rw[hh,T0 rfl] at u;rw[T0 rfl];refine⟨z,h.sS,h.sh.new u h.sh.tab.me h.sh.tab.len,A,λs=>?_,r,h.sh.uA u h.names (by decide),by omega⟩;rw[m,h.keys];constructor
  .exact Xb
  .rintro(rfl|hs)
   .exact(h.keys s).1 (Sn.iM.1 hh)
   .exact hs
 |false =>
  rw[hh,TZ (by decide)] at u;rw[TZ (by decide)];refine⟨z,h.sS,h.sh.new u (Sn.iq h.sh.tab.me hh) (by rw[Sn.iP];omega),A,λs=>?_,λx C=>?_,h.sh.uA u h.names (by decide),by rw[Sn.iP];omega⟩
  .rw[m,<-h.keys];constructor
   .rintro⟨e,P⟩;rcases Sn.kT.1 P with e1|e1
    .exact Xa (congrArg Prod.fst e1)
    .exact Xb ⟨e,e1⟩
   .rintro(rfl|⟨e,P⟩)
    .exact⟨_,Sn.kT.2 (Xa O)⟩
    .exact⟨e,Sn.kT.2 (Xb P)⟩
  .rcases Sn.kT.1 C with e1|e1
   .subst e1;exact⟨O,N,h.sh.uA u B (by decide)⟩
   .exact r x e1
theorem DA.sorted{b j:Nat}(h:DA w0 b j da n cX F vL L wr (Xg L) v T)(l:L.Nodup): T.map (·.1)=oj (fQ F n da L):=by
 refine EZ ?_ (xV (A:=fQ F n da L) (l8 l)) λs=>?_
 .unfold me;rw[List.pairwise_map];exact h.sh.tab.me.imp λm=>by simpa [Sn.lt] using m
 .have r:s∈oj (fQ F n da L)↔s∈fQ F n da L:=tj (l8 l) s;have:=h.keys s;rw[Vd] at this;rw[r,<-this,Ve];constructor
  .rintro⟨x,u,rfl⟩;exact⟨x.2,u⟩
  .rintro⟨e,y⟩;exact⟨(s,e),y,O⟩
theorem Kr{R:Rk}{b:Nat}(h:Sm R n b)(e:R.Ok): Xg R.fD<=n:=by
 unfold Rk.fD;split
 .exact Ud _
 .rw[UX]
  show (Rd.tab (R.dir (Xg R.dW))).length<=n
  rw[Rd.uq (e.eC _)];have j:=Rd.uk R (Xg R.dW);have l:=h.dir;omega
theorem xj(R:Rk):R.fD.Nodup:=by
 unfold Rk.fD;split
 .exact List.Pairwise.nil
 .unfold List.Nodup;rw[List.pairwise_map];exact(Rd.eG R.now).imp λb=>Sd.qW b
def Em(Q:Rk)(b da n cX:Nat)(w:WR)(e:Ending)(w':WR):Prop:=WQ w w'/\(Q.nD≠0->e=WZ (WX #[WV U,Z Y Q.nD]))/\
 (Q.nD=0->∃j v T,e=WZ (WX #[WV (S ⟨j,0,U⟩),Z Y 0])/\(K (E w))<=j/\gG w' j b da n cX v T/\(∀g,v.ownBlock=S g->K (E w)<=g)/\T.map (·.1)=oj (fQ Q.rd n da Q.fD)/\(∀x∈T,qi w' (K (E w)) Q.rd n x)/\(Xg T)<=Xg Q.fD)
theorem zT(j E nn b da n cX:Nat)(Q R:Rk)(O:Nat->Prop)(w:WR)(h:iV w j E Q R O)(hs:Sm Q nn b)(an:nn<=1000000000)(u:b<=2097152)(hn:n<=64)(hj:da<4294967296)(ao:fI w):WT prog 30 #[WV (S ⟨j,0,U⟩),WY #[Z .u32 da,Z Y n],Z Y cX] w (Em Q j da n cX w):=by
 generalize hO:Em Q j da n cX w=O';replace hO:=cT hO;have aA:Hid (∀(W:WR) (l:Nat) (v:WS) (T:Sn.Tb) (a:WU),WQ w W->gG W l j da n cX v T->WT prog 45 #[WV (S ⟨l,0,U⟩),H a] W (Dx Q n da a W)):=λW l v T a C hS =>
  Lf l j E nn b da n Q R O a W (h.below C) hs an u hn hj (ao.below C) hS.c0 hS.c1 hS.c2
 have aB:=Kr hs h.DZ.1;have N:Hid (∀W,WQ w W->WT prog 44 #[WV (S ⟨j,0,U⟩)] W λe w'=>∃v,e=WZ (WX #[v,Z Y Q.nD])/\w'.ownsRow W.heap.size 9 1 v (Xg Q.fD) (Rd.strs Q.fD)/\WQ W w'):=λW C=>Pk.KR (h.below C) hs an
 have aq:=cT (xj Q);obtain⟨L,HL⟩:∃L,Hid (Q.fD=L):=⟨_,rfl⟩
 obtain⟨er,P⟩:∃er,Hid (Q.nD=er):=⟨_,rfl⟩
 rw[cS HL] at N aB aq;rw[cS P] at N;have ar:Hid (∀W,W=w.alloc (D #[Z .u32 (da:Int),Z Y (n:Int)] 91)->W.heap[w.heap.size]?=S (D #[Z .u32 (da:Int),Z Y (n:Int)] 91 (0,0))/\WQ w W):=by
  show ∀W,_
  rintro W rfl;exact⟨T9 w _,(T4 _ w).alloc WN _⟩
 clear h hs ao;go_enter func30,ntmps30;go_wp2_with fail;generalize C:Xe _ _=W0;obtain⟨ad,G⟩:=cS ar W0 C.symm;clear C ar;refine(cS N W0 G).mono ?_;rintro e z ⟨vL,rfl,m,ae⟩;have A:=G.trans (ae.mono G.size);have E1:=(ae.block _ (cV ad)).trans ad;have y:=cT (Rd.lA m G.size);clear ae G ad m N;by_cases af:er=0
 .subst af;have x0:z.cell? ⟨w.heap.size,0,U⟩=S (Z .u32 (da:Int)):=by rw[T5 z _ 0 _ _ _ E1];rfl
  have x1:z.cell? ⟨w.heap.size,1,U⟩=S (Z Y (n:Int)):=by rw[T5 z _ 1 _ _ _ E1];rfl
  obtain⟨pl,cl,rfl⟩:=lO (cS y);have ag:Hid (∀W,W=z.alloc (D (Mn j da n cX (J U 0 0)) 113)->DA w z.heap.size j da n cX Q.rd (J pl (Xg L) cl) L W 0 (J U 0 0) []):=by
   show ∀W,_
   rintro W rfl;have hA:WQ z (z.alloc (D (Mn j da n cX (J U 0 0)) 113)):=(T4 _ z).alloc WN _;refine⟨A.trans (hA.mono A.size),A.size,⟨⟨T9 z _,rfl,Uw _ _ _ _,List.Pairwise.nil,Ud _⟩,λe=>(by cases e)⟩,λg e=>(by cases e),λs=>?_,λx hx=>(by cases hx),dd (cS y) hA,TY _⟩;rw[List.take_zero];exact⟨λ⟨e,he⟩=>(by cases he),λh=>(by cases h)⟩
  unfold Mn at ag;clear E1 A y;go_wp2_with fail;generalize C:Xe _ _=W2;have B:=cT (cS ag W2 C.symm);obtain⟨l,hS⟩:∃l,z.heap.size=l:=⟨_,rfl⟩
  rw[hS] at B ⊢;clear C hS ag x0 x1
  go_loopw [30] (λi wr=>∃k:Nat,∃v:WS,∃T:Sn.Tb,k<=Xg L/\i=Z Y k/\Hid (DA w l j da n cX Q.rd (J pl (Xg L) cl) L wr k v T)) (λi _=>Xg L-(intOf i).toNat)
  case atStart=>exact⟨0,J U 0 0,[],Ud _,rfl,B⟩
  case round =>
   clear B;obtain⟨k,v,T,hk,rfl,B⟩:=hrel;by_cases ah:k<Xg L
   .have au:(k:Int)<(Xg L:Int):=by omega
    obtain⟨aI,aJ,aC,av⟩:=dm (cS B).names;injection aC with aD _ aE;subst aD aE;obtain⟨g,rfl,_,_,c0⟩:=av k (by omega);obtain⟨a,HA⟩:∃a,Hid (L[k]=a):=⟨L[k],cT rfl⟩
    replace c0:wr.cell? ⟨g,k,U⟩=S (H a):=by
     rw[c0,<-cS HA];unfold Rd.strs;rw[VX,Uk ah];rfl
    have V:=cT (cS aA wr l v T a (cS B).lJ (cS B).sh);clear av;by_cases hf:∃r,Gf Q.rd n da a r
    .obtain⟨r,hf⟩:=hf;have HF:=cT hf;clear hf;go_wp2_with fail;refine(cS V).mono ?_;rintro e t ⟨u,hy,_⟩;obtain⟨sl,rfl,m⟩:=hy r (cS HF);obtain⟨q,cq,rfl⟩:=lO m;obtain⟨p,aw⟩:∃p,Hid (p=(fp Q.rd n r).all):=⟨_,rfl⟩
     rw[<-cS aw];have I:=Rd.lA m (cS B).lJ.size;have M:=cT ((cS B).below u);clear hy u m V c0 B;go_upto_region 10 with fail;generalize ai:Xe _ _=w3;have hA:WQ t w3:=by rw[<-ai];exact(T4 _ t).alloc WN _
     have hX:w3.heap[t.heap.size]?=S (D #[Z Y (r:Int),J q n cq,Z Y p] 80 (0,0)):=by rw[<-ai];exact T9 t _
     obtain⟨X,ax⟩:∃X,t.heap.size=X:=⟨_,rfl⟩
     have aa:=cT ((cS M).below hA);have ay:=cT (dd I hA);rw[ax] at hX ⊢;clear ai hA ax M I;have x0:w3.cell? ⟨X,0,U⟩=S (Z Y (r:Int)):=by rw[T5 w3 _ 0 _ _ _ hX];rfl
     have x1:w3.cell? ⟨X,1,U⟩=S (J q n cq):=by rw[T5 w3 _ 1 _ _ _ hX];rfl
     have x2:w3.cell? ⟨X,2,U⟩=S (Z Y p):=by rw[T5 w3 _ 2 _ _ _ hX];rfl
     have aF:Hid (∀W,W=w3.drew->WT prog 46 #[WV (S ⟨l,4,U⟩),Z Y (r:Int),WY #[Z Y (r:Int),J q n cq,Z Y p]] W λe w'=>(∃bb,e=WZ (WW bb))/\(w'.cell? ⟨X,0,U⟩=S (Z Y (r:Int))/\w'.cell? ⟨X,1,U⟩=S (J q n cq)/\w'.cell? ⟨X,2,U⟩=S (Z Y p))/\∃v' T',Hid (DA w l j da n cX Q.rd (J (S ⟨g,0,U⟩) (Xg L) cl) L w' (k+1) v' T')):=by
      show ∀W,_
      intro W C;have aj:WQ w3 W:=by rw[C];exact WO.drew
      have hI:=(cS aa).below aj;have ab:=(aj.block _ (cV hX)).trans hX;refine(Rt.n8 l 4 (Mn j da n cX v) 113 v T r ⟨q,n,cq,p⟩ W hI.sh.tab hI.sh.ne).mono ?_;rintro e w' ⟨he,v',hn⟩;have ak:w'.heap[X]?=S (D #[Z Y (r:Int),J q n cq,Z Y p] 80 (0,0)):=by
       rw[hn.kept.block X (cV ab) ⟨de ab hI.sh.tab.blk (by decide),λhv=>?_⟩]
       .exact ab
       .obtain⟨aK,hc,_⟩:=dh hI.sh.tab.row hv;exact de ab hc (by decide) rfl
      refine⟨⟨_,he⟩,⟨by rw[T5 w' _ 0 _ _ _ ak];rfl,by rw[T5 w' _ 1 _ _ _ ak];rfl,by rw[T5 w' _ 2 _ _ _ ak];rfl⟩,v',_,hI.add ah (by omega) (by rw[cS HA];exact cS HF) (cS aw) (dd (cS ay) aj) hn⟩
     clear hX aa ay
     go_region_held3 (λw'=>w'.cell? ⟨X,0,U⟩=S (Z Y (r:Int))/\w'.cell? ⟨X,1,U⟩=S (J q n cq)/\w'.cell? ⟨X,2,U⟩=S (Z Y p))
      (first|(exact⟨by assumption,by assumption,by assumption⟩)|(go_keep;done))
      (first|(go_at_call 46;refine((cS aF) _ rfl).mono ?_;rintro e w5 ⟨⟨bb,rfl⟩,⟨y0,y1,y2⟩,v',T',aG⟩))
     all_goals
      go_wp2;go_roundw
      case rel=>exact⟨k+1,v',T',by omega,by go_num,aG⟩
      case measure=>simp[intOf];omega
    .go_wp2_with fail;refine(cS V).mono ?_;rintro e t ⟨u,_,az⟩;obtain⟨s,aL,rfl⟩:=az (λr h=>hf ⟨r,h⟩);have M:=cT (((cS B).below u).no ah (λr h=>hf ⟨r,by rw[<-cS HA];exact h⟩));clear az u V c0 B;have aa:Hid (∀o,DA w l j da n cX Q.rd (J (S ⟨g,0,U⟩) (Xg L) cl) L (t.alloc o) (k+1) v T):=λo=>(cS M).below ((T4 _ t).alloc WN _)
     clear M;go_wp2;go_roundw
     case rel=>exact⟨k+1,v,T,by omega,by go_num,cS aa _⟩
     case measure=>simp[intOf];omega
   .have au:¬(k:Int)<(Xg L:Int):=by omega
    have HF:Hid (O' (WZ (WX #[WV (S ⟨l,0,U⟩),Z Y 0])) wr):=by
     show O' _ _
     rw[<-cS hO];have aH:k=Xg L:=by omega
     subst aH;have hi:=cS B;refine⟨hi.lJ,λh=>absurd (cS P) h,λ_=>⟨l,v,T,rfl,hi.sS,hi.sh,hi.own,?_,hi.Bz,?_⟩⟩
     .rw[cS HL];exact hi.sorted (cS aq)
     .rw[cS HL];exact hi.len
    go_wp2;exact cS HF
 .have aM:(er != 0)=W8:=by rw[VH];exact af
  have HF:Hid (O' (WZ (WX #[WV U,Z Y er])) z):=by
   show O' _ _
   rw[<-cS hO];exact⟨A,λ_=>by rw[cS P],λh=>absurd h (by rw[cS P];exact af)⟩
  clear A y;go_wp2;exact cS HF
end Ru
namespace Ru
open Rd (Rk)
open Pk (iV Sm dh cV de)
open Dk (Kept)
def gE(e:Int):List PanicEntry:=[{ v := .iface 120 (WY #[Z Y e]),recovered:=false }]
theorem iT(w:WR):WT prog 89 #[Z Y 0] w λb e=>b=WZ (WX #[])/\e=w:=by
 go_enter func89,ntmps89;go_wp2;exact Ub (Ua O _ _ _) O ⟨O,O⟩
theorem jV(e:Int)(he:e≠0)(w:WR):WT prog 89 #[Z Y e] w λb j=>b=.panicked (gE e)/\j=w:=by
 have l:(e != 0)=W8:=by rw[VH];exact he
 go_enter func89,ntmps89;go_wp2;exact⟨O,O,O⟩
theorem EN{W:WR}{B:Nat}{a b c x y z:WS}{t:TypeId}(h:W.heap[B]?=S (D #[a,b,c] t (0,0)))(o:Obj):((((W.setCell ⟨B,0,U⟩ x).setCell ⟨B,1,U⟩ y).setCell ⟨B,2,U⟩ z).alloc o).heap[B]?=S (D #[x,y,z] t (0,0)):=by
 have j:=Ue W B 0 _ _ x h;have l:=Ue _ B 1 _ _ y j;have e:=Ue _ B 2 _ _ z l;rw[Ur _ _ _ (cV e),e]
 rfl
theorem Cb(b j da n cX:Nat)(v:WS)(T:Sn.Tb)(k:Nat)(x:Sn.Ce)(w:WR)(h:gG w b j da n cX v (T++[(k,x)])):WT prog 50 #[WV (S ⟨b,0,U⟩)] w λe V=>e=WZ (WX #[Rt.lj k x,WW W8])/\WQ w V:=by
 have M:Hid (∀W,W=w.alloc (D #[Z Y 0,J U 0 0,Z Y 0] 80)->W.heap[K (E w)]?=S (D #[Z Y 0,J U 0 0,Z Y 0] 80 (0,0))/\WQ w W):=by
  show ∀W,_
  rintro W rfl;exact⟨T9 w _,(T4 _ w).alloc WN _⟩
 have l:=cT h;clear h;go_enter func50,ntmps50;go_wp2_with fail;generalize P:Xe _ _=Q;obtain⟨A,r⟩:=cS M Q P.symm;clear P M;refine(Rt.Hd b 4 _ _ v T k x Q ((cS l).tab.below r)).mono ?_;rintro e m ⟨rfl,B⟩;have u:=(B.block _ (cV A)).trans A;have C:=r.trans (B.mono r.size);have X:=cV u;obtain⟨q,F,G,I⟩:=x;unfold Rt.lj;dsimp only;have t:Hid (∀o (x y z:WS),WQ w ((((m.setCell ⟨K (E w),0,U⟩ x).setCell ⟨K (E w),1,U⟩ y).setCell ⟨K (E w),2,U⟩ z).alloc o)):=λo x y z =>
  (((C.setCell (p:=⟨K (E w),0,U⟩) WN _).setCell (p:=⟨K (E w),1,U⟩) WN _).setCell (p:=⟨K (E w),2,U⟩) WN _).alloc (by simpa using C.size) _
 have s:Hid (∀o (x y z:WS),((((m.setCell ⟨K (E w),0,U⟩ x).setCell ⟨K (E w),1,U⟩ y).setCell ⟨K (E w),2,U⟩ z).alloc o).heap[K (E w)]?=S (D #[x,y,z] 80 (0,0))):=λo x y z=>EN u o
 have r0:m.cell? ⟨K (E w),0,U⟩=S (Z Y 0):=by rw[T5 m _ 0 _ _ _ u];rfl
 have r1:m.cell? ⟨K (E w),1,U⟩=S (J U 0 0):=by rw[T5 m _ 1 _ _ _ u];rfl
 have r2:m.cell? ⟨K (E w),2,U⟩=S (Z Y 0):=by rw[T5 m _ 2 _ _ _ u];rfl
 have g0:m.frozen? ⟨K (E w),0,U⟩=W9:=by simp[World.frozen?,u]
 have g1:m.frozen? ⟨K (E w),1,U⟩=W9:=by simp[World.frozen?,u]
 have g2:m.frozen? ⟨K (E w),2,U⟩=W9:=by simp[World.frozen?,u]
 clear B r A C u;go_wp2;have N:=cS s (D #[Z Y (k:Int),J q F G,Z Y I] 80) (Z Y (k:Int)) (J q F G) (Z Y I);have R:=cT (cS t (D #[Z Y (k:Int),J q F G,Z Y I] 80) (Z Y (k:Int)) (J q F G) (Z Y I));generalize Xe _ _=L at N R ⊢;have g:L.cell? ⟨K (E w),0,U⟩=S (Z Y (k:Int)):=by rw[T5 L _ 0 _ _ _ N];rfl
 have q1:L.cell? ⟨K (E w),1,U⟩=S (J q F G):=by rw[T5 L _ 1 _ _ _ N];rfl
 have q2:L.cell? ⟨K (E w),2,U⟩=S (Z Y I):=by rw[T5 L _ 2 _ _ _ N];rfl
 exact T8 (v := WX #[WY #[Z Y (k:Int),J q F G,Z Y I],WW W8]) (by simp[results,results50,go_sem,g,q1,q2]) O ⟨O,cS R⟩
theorem Av(b j da n cX:Nat)(v:WS)(w:WR)(h:gG w b j da n cX v []):WT prog 50 #[WV (S ⟨b,0,U⟩)] w λe P=>e=WZ (WX #[WY #[Z Y 0,J U 0 0,Z Y 0],WW W9])/\WQ w P:=by
 have G:Hid (∀W,W=w.alloc (D #[Z Y 0,J U 0 0,Z Y 0] 80)->W.heap[K (E w)]?=S (D #[Z Y 0,J U 0 0,Z Y 0] 80 (0,0))/\WQ w W):=by
  show ∀W,_
  rintro W rfl;exact⟨T9 w _,(T4 _ w).alloc WN _⟩
 have l:=cT h;clear h;go_enter func50,ntmps50;go_wp2_with fail;generalize L:Xe _ _=M;obtain⟨A,r⟩:=cS G M L.symm;clear L G;refine(Rt.GN b 4 _ _ v M ((cS l).tab.below r)).mono ?_;rintro e m ⟨rfl,B⟩;have u:=(B.block _ (cV A)).trans A;have C:=r.trans (B.mono r.size);have Q:=cV u;unfold Rt.vT;have R:Hid (∀o (x y z:WS),WQ w ((((m.setCell ⟨K (E w),0,U⟩ x).setCell ⟨K (E w),1,U⟩ y).setCell ⟨K (E w),2,U⟩ z).alloc o)):=λo x y z =>
  (((C.setCell (p:=⟨K (E w),0,U⟩) WN _).setCell (p:=⟨K (E w),1,U⟩) WN _).setCell (p:=⟨K (E w),2,U⟩) WN _).alloc (by simpa using C.size) _
 have T:Hid (∀o (x y z:WS),((((m.setCell ⟨K (E w),0,U⟩ x).setCell ⟨K (E w),1,U⟩ y).setCell ⟨K (E w),2,U⟩ z).alloc o).heap[K (E w)]?=S (D #[x,y,z] 80 (0,0))):=λo x y z=>EN u o
 have t:m.cell? ⟨K (E w),0,U⟩=S (Z Y 0):=by rw[T5 m _ 0 _ _ _ u];rfl
 have s:m.cell? ⟨K (E w),1,U⟩=S (J U 0 0):=by rw[T5 m _ 1 _ _ _ u];rfl
 have g:m.cell? ⟨K (E w),2,U⟩=S (Z Y 0):=by rw[T5 m _ 2 _ _ _ u];rfl
 have g0:m.frozen? ⟨K (E w),0,U⟩=W9:=by simp[World.frozen?,u]
 have g1:m.frozen? ⟨K (E w),1,U⟩=W9:=by simp[World.frozen?,u]
 have g2:m.frozen? ⟨K (E w),2,U⟩=W9:=by simp[World.frozen?,u]
 clear B r A C u;go_wp2;have I:=cS T (D #[Z Y 0,J U 0 0,Z Y 0] 80) (Z Y 0) (J U 0 0) (Z Y 0);have N:=cT (cS R (D #[Z Y 0,J U 0 0,Z Y 0] 80) (Z Y 0) (J U 0 0) (Z Y 0));generalize Xe _ _=F at I N ⊢;have V:F.cell? ⟨K (E w),0,U⟩=S (Z Y 0):=by rw[T5 F _ 0 _ _ _ I];rfl
 have X:F.cell? ⟨K (E w),1,U⟩=S (J U 0 0):=by rw[T5 F _ 1 _ _ _ I];rfl
 have q:F.cell? ⟨K (E w),2,U⟩=S (Z Y 0):=by rw[T5 F _ 2 _ _ _ I];rfl
 exact T8 (v := WX #[WY #[Z Y 0,J U 0 0,Z Y 0],WW W9]) (by simp[results,results50,go_sem,V,X,q]) O ⟨O,cS N⟩
theorem G0{T:Sn.Tb}{k:Nat}{x:Sn.Ce}(h:Sn.di ((k,x)::T)):Sn.gM ((k,x)::T) k=T:=by
 have e:Sn.dF ((k,x)::T) k=W8:=Sn.iM.2 ⟨x,UI⟩;have l:Sn.dw ((k,x)::T) k=0:=Sn.jO (Ud _) (λj b hi=>by omega) (λj b hi=>by
  cases j with
  |zero=>simp[Sn.lt]
  |succ j=>have:=Sn.eu h (i:=0) (j:=j+1) (by omega) b;simp[Sn.lt] at this ⊢;omega)
 unfold Sn.gM;rw[T0 e,l]
 rfl
theorem v8(b l da n cX:Nat)(v:WS)(T:Sn.Tb)(k:Nat)(x:Sn.Ce)(w:WR)(h:gG w b l da n cX v ((k,x)::T)):WT prog 88 #[WV (S ⟨b,0,U⟩)] w λe G=>e=WZ (Z Y (k:Int))/\∃A,gG G b l da n cX A T/\Kept w G (λj=>¬qC b v j)/\(∀g,A.ownBlock=S g->v.ownBlock=S g\/K (E w)<=g):=by
 have m:=cT h;clear h;go_enter func88,ntmps88;go_wp2_with fail;refine(Rt.Gj b 4 _ _ v T k x w (cS m).tab).mono ?_;rintro e I ⟨rfl,u⟩;have R:=cT ((cS m).below u);have B:=cT u;obtain⟨q,t,s,p⟩:=x;unfold Rt.lj;dsimp only;clear u;go_wp2_with fail;generalize L:Xe _ _=M;have r:WQ I M:=by rw[<-L];exact WO.alloc WN _
 have y:=(cS R).below r;refine(Rt.kt b 4 _ _ v _ k M y.tab y.ne).mono ?_;rintro e w3 ⟨rfl,A,C⟩;rw[G0 y.tab.me] at C;have N:=y.tab.len;rw[Uf] at N;have F:=y.new C (U6.1 y.tab.me).2 (by omega);have P:Kept w w3 (λj=>¬qC b v j):=(Kept.below (cS B) _).trans ((Kept.below r _).trans (C.kept.mono λj _ Q=>⟨λe=>Q (Xa e),λe=>Q (Xb e)⟩));have z:∀g,A.ownBlock=S g->v.ownBlock=S g\/K (E w)<=g:=λg z=>by
  rcases C.new with e|⟨V,e,W⟩
  .rw[e] at z;exact Xa z
  .rw[e] at z;have:V=g:=Ut z;have:=(cS B).size;have:=r.size;omega
 have X:=cT (And.intro F (And.intro P z));clear L r y C N F P z;go_wp2;go_ret;exact⟨O,A,cS X⟩
end Ru
namespace Ru
open Sp (dq)
open Rd (Rk e0)
open Pk (iV Sm fj TP dh cV de)
open Dk (Kept)
def OO(O:Nat->Prop)(e:Nat)(v:WS)(k:Nat):Prop:=O k\/qC e v k
structure ou (w:WR) (D E S da n cX:Nat) (Q R:Rk) (O:Nat->Prop) (v:WS) (T:Sn.Tb):Prop where
 two:iV w D E Q R O
 sh:gG w S D da n cX v T
 apart:∀k,O k->¬qC S v k
 pw:fI w
 np:¬OO O S v 6
variable {T:Sn.Tb}{v:WS}{n da cX:Nat}{w:WR}
theorem gG.jK{j m:Nat}(h:gG w j m da n cX v T){k:Nat}(r:qC j v k): k<K (E w):=by
 rcases r with rfl|e
 .exact h.lt
 .obtain⟨_,u,_⟩:=dh h.tab.row e;exact cV u
variable {Q R:Rk}
theorem ou.lt{j E m:Nat}{O:Nat->Prop}(h:ou w j E m da n cX Q R O v T){k:Nat}(r:OO O m v k): k<w.heap.size:=by
 rcases r with e|e
 .exact h.two.lt e
 .exact h.sh.jK e
theorem ou.below{w':WR}{e E j:Nat}{O:Nat->Prop}(h:ou w e E j da n cX Q R O v T)(hb:WQ w w'): ou w' e E j da n cX Q R O v T:=⟨h.two.below hb,h.sh.below hb,h.apart,h.pw.below hb,h.np⟩
theorem ou.op{w':WR}{j E m:Nat}{B:Rk}{O u:Nat->Prop}(h:ou w j E m da n cX Q R O v T)(h2:iV w' j E B R u)(z:fj w O w' u): ou w' j E m da n cX B R u v T/\fj w (OO O m v) w' (OO u m v):=by
 have y:fj w (OO O m v) w' (OO u m v):=⟨z.kept.mono λk _ r A=>r (Xa A),λk r=>by
  rcases r with e|e
  .rcases z.own k e with e|e
   .exact Xa (Xa e)
   .exact Xb e
  .exact Xa (Xb e)⟩
 obtain⟨F,_,G⟩:=y.far h.pw.lt h.np;refine⟨⟨h2,h.sh.kept z.kept (λk r A=>h.apart k A r),λk r C=>?_,h.pw.keep F,G⟩,y⟩;rcases z.own k r with e|e
 .exact h.apart k e C
 .have:=h.sh.jK C;omega
def mI(w:WR)(j E m da n cX:Nat)(R:Rk)(O:Nat->Prop)(v:WS)(G:Sn.Tb->Prop)(r:Int × Rk)(e:Ending)(w':WR):Prop:=(r.1=0->e=WZ (WX #[]))/\(r.1≠0->e=.panicked (gE r.1))/\∃u y z,(r.1=0->G z)/\ou w' j E m da n cX r.2 R u y z/\fj w (OO O m v) w' (OO u m y)
variable {o:Oq}{l:List Oq}
theorem qH(h:(dz R o).1≠0): eh R (o::l)=dz R o:=by rw[eh,TZ h]
theorem oZ(h:(dz R o).1=0): eh R (o::l)=eh (dz R o).2 l:=by rw[eh,T0 h]
theorem o8: eh R [o]=dz R o:=by
 rw[eh];split
 .rename_i h;rw[eh,<-h]
 .rfl
variable {b:Nat}
theorem gB.head(h:gB R l n b): Sm R n b:=h 0 (Ud _)
theorem gB.tail(h:gB R (o::l) n b)(e:(dz R o).1=0): gB (dz R o).2 l n b:=λi hi=>by
 have:=h (i+1) (by simpa using hi);rw[VF,oZ e] at this;exact this
theorem gB.fst{m:List Oq}(h:gB R (l++m) n b): gB R l n b:=λi hi=>by
 have:=h i (by rw[UG];omega);rw[Vk hi] at this;exact this
theorem gB.snd{m:List Oq}(h:gB R (l++m) n b)(e:(eh R l).1=0): gB (eh R l).2 m n b:=λi hi=>by
 have:=h (Xg l+i) (by rw[UG];omega);rw[List.take_length_add_append,iC,T0 e] at this;exact this
theorem tg(j E m da n cX nn b:Nat)(Q R:Rk)(O:Nat->Prop)(v:WS)(T:Sn.Tb)(a p:WU)(w:WR)(h:ou w j E m da n cX Q R O v T)(hp:gB Q (eO a p) nn b)(G:nn<=1000000000)(hb:b<=2097152)(ha:a.size<=1048576)(ht:(dq p).size<=1048576):WT prog 94 #[WV (S ⟨m,0,U⟩),H a,H (dq p)] w (mI w j E m da n cX R O v (λT'=>T'=T) (eh Q (eO a p))):=by
 generalize X:mI w j E m da n cX R O v (λT'=>T'=T) (eh Q (eO a p))=P;replace X:=cT X;have c0:=h.sh.c0;have H1:=cT (Pk.Ky a h.two hp.head G ha);have r:=cT h;have HP:=cT hp;obtain⟨t,s⟩:∃t,Hid (dq p=t):=⟨_,rfl⟩
 rw[cS s] at ht ⊢;clear h hp;go_enter func94,ntmps94;go_wp2_with fail;refine(cS H1).mono ?_;rintro e w1 ⟨rfl,O1,t1,s1⟩;obtain⟨N,z⟩:=(cS r).op t1 s1;obtain⟨e1,u⟩:∃e,Hid ((Q.create a).1=e):=⟨_,rfl⟩
 rw[cS u];by_cases h1:e1=0
 .subst h1;have I:=(cS HP).tail (cS u);have c1:=N.sh.c0;have H2:=cT (Pk.LD a t N.two I.head G hb ht);have ad:=cT N;have g:=cT z;have ae:=cT I;clear H1 t1 s1 N z I c0;go_wp2_with fail;refine(iT w1).mono ?_;rintro e ah ⟨rfl,rfl⟩;go_wp2_with fail;refine(cS H2).mono ?_;rintro e w2 ⟨rfl,O2,t2,s2⟩;obtain⟨V,A⟩:=(cS ad).op t2 s2;obtain⟨e2,B⟩:∃e,Hid (((Q.create a).2.append a t).1=e):=⟨_,rfl⟩
  have y:Hid ((dz (dz Q ⟨1,a,e0⟩).2 ⟨2,a,dq p⟩).1=e2):=by show _=_;rw[cS s];exact cS B
  rw[cS B];by_cases h2:e2=0
  .subst h2;have L:=(cS ae).tail (cS y);have aa:(dz (dz Q ⟨1,a,e0⟩).2 ⟨2,a,dq p⟩).2=((Q.create a).2.append a t).2:=by rw[cS s];rfl
   rw[aa] at L;have c2:=V.sh.c0;have H3:=cT (Pk.Pn a V.two L.head G);have af:=cT V;have ag:=cT ((cS g).trans A);clear H2 t2 s2 V A L c1 aa;go_wp2_with fail;refine(iT w2).mono ?_;rintro e ai ⟨rfl,rfl⟩;go_wp2_with fail;refine(cS H3).mono ?_;rintro e w3 ⟨rfl,O3,t3,s3⟩;obtain⟨q3,ab⟩:=(cS af).op t3 s3;have F:eh Q (eO a p)=((Q.create a).2.append a t).2.sync a:=by
    unfold eO;rw[oZ (show (dz Q ⟨1,a,e0⟩).1=0 from cS u),oZ (cS y),o8,cS s];rfl
   obtain⟨e3,C⟩:∃e,Hid ((((Q.create a).2.append a t).2.sync a).1=e):=⟨_,rfl⟩
   have W:Hid (∀en,(e3=0->en=WZ (WX #[]))->(e3≠0->en=.panicked (gE e3))->P en w3):=by
    show ∀en,_
    intro en k1 k2;rw[<-cS X,F];exact⟨λh=>k1 ((cS C).symm.trans h),λh=>by rw[cS C];exact k2 (λq=>h ((cS C).trans q)),O3,v,T,λ_=>rfl,q3,(cS ag).trans ab⟩
   rw[cS C];clear H3 t3 s3 q3 ab c2 F;by_cases h3:e3=0
   .subst h3;go_wp2_with fail;refine(iT w3).mono ?_;rintro e M ⟨rfl,rfl⟩;go_wp2;exact Ub (Ua rfl _ _ _) rfl (cS W _ (λ_=>rfl) (λh=>absurd rfl h))
   .go_wp2_with fail;refine(jV e3 h3 w3).mono ?_;rintro e M ⟨rfl,rfl⟩;exact⟨rfl,cS W _ (λh=>absurd h h3) (λ_=>rfl)⟩
  .have F:eh Q (eO a p)=(Q.create a).2.append a t:=by
    unfold eO;rw[oZ (show (dz Q ⟨1,a,e0⟩).1=0 from cS u),qH (by rw[cS y];exact h2),cS s];rfl
   have W:Hid (P (.panicked (gE e2)) w2):=by
    show P _ _
    rw[<-cS X,F];exact⟨λh=>absurd ((cS B).symm.trans h) h2,λh=>by rw[cS B],O2,v,T,λ_=>rfl,V,(cS g).trans A⟩
   clear H2 t2 s2 V A c1 F;go_wp2_with fail;refine(jV e2 h2 w2).mono ?_;rintro e M ⟨rfl,rfl⟩;exact⟨rfl,cS W⟩
 .have F:eh Q (eO a p)=Q.create a:=by
   unfold eO;rw[qH (show (dz Q ⟨1,a,e0⟩).1≠0 from λq=>h1 ((cS u).symm.trans q))];rfl
  have W:Hid (P (.panicked (gE e1)) w1):=by
   show P _ _
   rw[<-cS X,F];exact⟨λh=>absurd ((cS u).symm.trans h) h1,λh=>by rw[cS u],O1,v,T,λ_=>rfl,N,z⟩
  clear H1 t1 s1 N z c0 F;go_wp2_with fail;refine(jV e1 h1 w1).mono ?_;rintro e M ⟨rfl,rfl⟩;exact⟨rfl,cS W⟩
end Ru
end Go.Proofs.YtgkkdpegcieakaaGreatDoor
