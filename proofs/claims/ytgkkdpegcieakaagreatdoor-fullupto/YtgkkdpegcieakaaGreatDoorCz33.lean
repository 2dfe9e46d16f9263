import Derived.Test.YtgkkdpegcieakaaGreatDoorCz28
import Derived.Test.YtgkkdpegcieakaaGreatDoorCz32
set_option linter.unusedVariables false
set_option linter.unusedSimpArgs false
set_option maxRecDepth 100000
set_option maxHeartbeats 16000000
namespace Go.Proofs.YtgkkdpegcieakaaGreatDoor
open Go.Proofs.Tryz
open Value renaming int→Z
open IntKind renaming i64→Y
open Go renaming World→TJ,Value→TK,Calls→TL
namespace Ru
open Go.RowKit
open Sp (nJ lO ie bt dj dt okB)
open Pk (cZ cS cY)
def Jb(W:TJ)(B L cX n:Nat)(k m v:TM)(b:Nat)(e:Int):Prop:=(W.cell? ⟨B,0,none⟩=some (Z .u32 cX)/\W.cell? ⟨B,1,none⟩=some (Z Y n))/\
 (W.cell? ⟨B+1,0,none⟩=some (.string k)/\W.cell? ⟨B+1,1,none⟩=some (.string m)/\W.cell? ⟨B+1,2,none⟩=some (.string v))/\
 (W.cell? ⟨L,0,none⟩=some (Z Y b)/\W.cell? ⟨L,1,none⟩=some (.slice none 0 0)/\W.cell? ⟨L,2,none⟩=some (Z Y e))
theorem Jb.below{W b:TJ}{B L cX n:Nat}{k m v:TM}{e:Nat}{j:Int}(h:Jb W B L cX n k m v e j)(hb:TI W b):Jb b B L cX n k m v e j:=by
 obtain⟨⟨r,u⟩,⟨y,z,A⟩,C,D,E⟩:=h;have f:∀{p:Addr} {x:TK},W.cell? p=some x->b.cell? p=some x:=λ{p x} l=>(hb.cell (cE W _ l)).trans l
 exact⟨⟨f r,f u⟩,⟨f y,f z,f A⟩,f C,f D,f E⟩
def Good(cX n:Nat)(k m v:TM)(b:Nat)(e:Int):Prop:=k=dj (kB b e cX (ie v) (ie m))/\(okB v=true/\(dt v).size=9*n)/\(okB m=true/\(dt m).size=12*n)/\∀i,i<n->bt (dt v) (9*i+8)<=1
def vS(cX n:Nat)(k m v:TM)(b:Nat)(j:Int)(w:TJ)(e:Ending)(w':TJ):Prop:=TI w w'/\
 (Good cX n k m v b j->∃sl,e=.returned (.tuple #[.agg #[Z Y b,sl,Z Y j],.bool true])/\w'.ownsRow w.heap.size 104 4 sl n (jm (gC (dt v) (dt m) ⟨#[]⟩ n).val (gC (dt v) (dt m) ⟨#[]⟩ n).fC (gC (dt v) (dt m) ⟨#[]⟩ n).iK (gC (dt v) (dt m) ⟨#[]⟩ n).je n))/\
 (¬Good cX n k m v b j->∃s l:Int,e=.returned (.tuple #[.agg #[Z Y s,.slice none 0 0,Z Y l],.bool false]))
theorem uP(cX n:Nat)(k m v:TM)(j:Nat)(l:Int)(w:TJ)(hn:n<=64)(hj:cX<4294967296)(hk:k.size<=4194304)(hm:m.size<=4194304)(hv:v.size<=4194304)(h1:okB k=true)(h2:(dt k).size=24)(ao:num (dt k) 0 4=j)(aB:pR (num (dt k) 4 8)=l):TL prog 80 #[.agg #[Z .u32 cX,Z Y n],.agg #[.string k,.string m,.string v]] w (vS cX n k m v j l w):=by
 have a7:j<4294967296:=by rw[<-ao];exact gV _ 4 0
 have HO:=cP (λW=>ru k W hk h1 h2);rw[ao,aB] at HO;generalize hO:vS cX n k m v j l w=O;replace hO:=cP hO;clear h1 h2 ao aB;have aC:=cP (jy w #[Z .u32 cX,Z Y n] #[.string k,.string m,.string v] gG 91 176 80);go_enter func80,ntmps80;go_wp2_with fail;generalize hW:World.alloc (World.alloc _ _) _=W0;obtain⟨b1,b2,b3,aq,hz⟩:=cO aC W0 hW.symm;clear hW aC;refine((cO HO) W0).mono ?_;rintro e w1 ⟨rfl,ad⟩;obtain⟨L,hL⟩:∃L,w1.heap.size=L:=⟨_,rfl⟩
 have hA:TI w1 (w1.alloc (.cells #[Z Y j,.slice none 0 0,Z Y l] 80)):=TH.alloc TG _;have E:=ct w1 (.cells #[Z Y j,.slice none 0 0,Z Y l] 80);have K:=ad.trans (hA.mono ad.size);clear HO;go_upto_region 2 with fail;rw[hL] at E;generalize aM:World.alloc _ _=W2 at E K ⊢;have e1:=(K.block _ (cS b1)).trans b1;have e2:=(K.block _ (cS b2)).trans b2;have e3:=(K.block _ (cS b3)).trans b3;have ar:=aq.trans (K.mono aq.size);have aN:w.heap.size+1+1<L:=by have:=ad.size;omega
 have HJ:Jb W2 w.heap.size L cX n k m v j l:=⟨⟨by rw[cn W2 _ 0 _ _ _ e1];rfl,by rw[cn W2 _ 1 _ _ _ e1];rfl⟩,⟨by rw[cn W2 _ 0 _ _ _ e2];rfl,by rw[cn W2 _ 1 _ _ _ e2];rfl,by rw[cn W2 _ 2 _ _ _ e2];rfl⟩,by rw[cn W2 _ 0 _ _ _ E];rfl,by rw[cn W2 _ 1 _ _ _ E];rfl,by rw[cn W2 _ 2 _ _ _ E];rfl⟩
 have E3:=cP e3;have EL:=cP E;clear aM b1 b2 b3 aq ad K hA e1 e2 e3 E hz hL;obtain⟨KB,ae⟩:∃KB,Hid (kB j l cX (ie v) (ie m)=KB):=⟨_,rfl⟩
 obtain⟨SB,au⟩:∃SB,Hid (dj KB=SB):=⟨_,rfl⟩
 have HC:Hid (∀V,Jb V w.heap.size L cX n k m v j l->TI W2 V->TL prog 122 #[.agg #[Z .u32 cX,Z Y n],Z Y j,Z Y l,.agg #[.string k,.string m,.string v]] V λe C=>e=.returned (.string KB)/\Jb C w.heap.size L cX n k m v j l/\TI W2 C):=λV hJ hB=>by
  have h:=tw cX n j l k m v V hj (by omega) hm hv;rw[cO ae] at h;exact h.mono λe C ⟨he,hb⟩=>⟨he,hJ.below hb,hB.trans (hb.mono hB.size)⟩
 have HS:Hid (∀V,Jb V w.heap.size L cX n k m v j l->TI W2 V->TL prog 121 #[.string KB] V λe C=>e=.returned (.string SB)/\Jb C w.heap.size L cX n k m v j l/\TI W2 C):=λV hJ hB=>by
  have h:=po KB V (by rw[<-cO ae,l5];omega);rw[cO au] at h;exact h.mono λe C ⟨he,hb⟩=>⟨he,hJ.below hb,hB.trans (hb.mono hB.size)⟩
 have aO:Hid (∀(args:Array TK) (w:TJ),(callFunc 122 args).run prog w=.ok (.enter 122 args) w):=cV func122 (by kernel_rfl) (by kernel_rfl);have aP:Hid (∀(args:Array TK) (w:TJ),(callFunc 121 args).run prog w=.ok (.enter 121 args) w):=cV func121 (by kernel_rfl) (by kernel_rfl);obtain⟨⟨j0,j1⟩,⟨s0,s1,s2⟩,c0,c1,c2⟩:=HJ;apply vj (λC=>Jb C w.heap.size L cX n k m v j l/\TI W2 C);apply Exists.intro;apply And.intro
 case left =>
  have U:TI W2 W2.drew:=TH.drew
  go_region_held3 (λC=>(C.cell? ⟨w.heap.size,0,none⟩=some (Z .u32 cX)/\C.cell? ⟨w.heap.size,1,none⟩=some (Z Y n))/\
   (C.cell? ⟨w.heap.size+1,0,none⟩=some (.string k)/\C.cell? ⟨w.heap.size+1,1,none⟩=some (.string m)/\C.cell? ⟨w.heap.size+1,2,none⟩=some (.string v))/\
   (C.cell? ⟨L,0,none⟩=some (Z Y j)/\C.cell? ⟨L,1,none⟩=some (.slice none 0 0)/\C.cell? ⟨L,2,none⟩=some (Z Y l)))
   (first|(go_keep;done)|(exact⟨⟨by assumption,by assumption⟩,⟨by assumption,by assumption,by assumption⟩,by assumption,by assumption,by assumption⟩))
   (first
    |(go_at_call 122;refine((cO HC) _ (by exact⟨⟨by assumption,by assumption⟩,⟨by assumption,by assumption,by assumption⟩,by assumption,by assumption,by assumption⟩) (by assumption)).mono ?_;rintro e w5 ⟨rfl,⟨⟨a8,ba⟩,⟨bc,bd,bg⟩,bh,c51,bj⟩,bk⟩)
    |(go_at_call 121;refine((cO HS) _ (by exact⟨⟨by assumption,by assumption⟩,⟨by assumption,by assumption,by assumption⟩,by assumption,by assumption,by assumption⟩) (by assumption)).mono ?_;rintro e H ⟨rfl,⟨⟨aQ,aR⟩,⟨aS,aT,aU⟩,aV,aW,aX⟩,M⟩))
  all_goals exact⟨rfl,rfl,⟨⟨aQ,aR⟩,⟨aS,aT,aU⟩,aV,aW,aX⟩,M⟩
 case right =>
 rintro H ⟨aD,M⟩;clear j0 j1 s0 s1 s2 c0 c1 c2 HC HS aO aP;have X:=ar.trans (M.mono ar.size);have r:=(M.block _ (cS (cO E3))).trans (cO E3);have af:=(M.block _ (cS (cO EL))).trans (cO EL);clear M ar E3 EL;have F:Hid (∀W,TI w W->¬Good cX n k m v j l->O (.returned (.tuple #[.agg gG,.bool false])) W):=λW hb hg=>by
  rw[<-cO hO];exact⟨hb,λh=>absurd h hg,λ_=>⟨0,0,rfl⟩⟩
 by_cases t:k=SB
 .have o:(!k.toList == SB.toList)=false:=by rw[t];simp
  have aY:IntKind.i64.wrap ((n:Int)*9)=((9*n:Nat):Int):=by rw[fp];omega
  have aE:IntKind.i64.wrap ((n:Int)*12)=((12*n:Nat):Int):=by rw[fp];omega
  have g:=cP (λW=>nU v (9*n) W (by omega) (by omega));have N:=cP (λW=>nU m (12*n) W (by omega) (by omega));obtain⟨bv,av⟩:∃b,Hid ((okB v&&decide ((dt v).size=9*n))=b):=⟨_,rfl⟩
  obtain⟨bm,aw⟩:∃b,Hid ((okB m&&decide ((dt m).size=12*n))=b):=⟨_,rfl⟩
  rw[cO av] at g;rw[cO aw] at N;obtain⟨PV,ag⟩:∃P,Hid (dt v=P):=⟨_,rfl⟩
  obtain⟨PM,ax⟩:∃P,Hid (dt m=P):=⟨_,rfl⟩
  rw[cO ag] at g;rw[cO ax] at N;obtain⟨nv,aZ⟩:∃x,Hid (9*n=x):=⟨_,rfl⟩
  obtain⟨bn,a1⟩:∃x,Hid (12*n=x):=⟨_,rfl⟩
  rw[cO aZ] at g aY;rw[cO a1] at N aE;obtain⟨⟨j0,j1⟩,⟨s0,s1,s2⟩,c0,c1,c2⟩:=aD;have a6:=cP t;clear t;simp only[o];clear o;go_wp2_with fail;refine((cO g) H).mono ?_;rintro e I ⟨rfl,Q⟩;have aa:=X.trans (Q.mono X.size);have u:=(Q.block _ (cS r)).trans r;have ah:=(Q.block _ (cS af)).trans af;have j7:I.cell? ⟨w.heap.size,1,none⟩=some (Z Y n):=(Q.cell (cE H _ j1)).trans j1;have s7:I.cell? ⟨w.heap.size+1,1,none⟩=some (.string m):=(Q.cell (cE H _ s1)).trans s1;clear j0 j1 s0 s1 s2 c0 c1 c2 Q X r af g;cases bv with
  |false =>
   have HF:Hid (O (.returned (.tuple #[.agg gG,.bool false])) (((I.setCell ⟨w.heap.size+1+1,0,none⟩ (Z Y 0)).setCell ⟨w.heap.size+1+1,1,none⟩ (.slice none 0 0)).setCell ⟨w.heap.size+1+1,2,none⟩ (Z Y 0))):=(cO F) _ (((aa.setCell (p:=⟨w.heap.size+1+1,0,none⟩) (SM _ 2) _).setCell (p:=⟨w.heap.size+1+1,1,none⟩) (SM _ 2) _).setCell (p:=⟨w.heap.size+1+1,2,none⟩) (SM _ 2) _) (λhg=>by have:=cO av;rw[hg.2.1.1,hg.2.1.2] at this;simp at this);have r0:I.cell? ⟨w.heap.size+1+1,0,none⟩=some (Z Y 0):=by rw[cn I _ 0 _ _ _ u];rfl
   have r1:I.cell? ⟨w.heap.size+1+1,1,none⟩=some (.slice none 0 0):=by rw[cn I _ 1 _ _ _ u];rfl
   have r2:I.cell? ⟨w.heap.size+1+1,2,none⟩=some (Z Y 0):=by rw[cn I _ 2 _ _ _ u];rfl
   have g0:I.frozen? ⟨w.heap.size+1+1,0,none⟩=false:=by simp[World.frozen?,u]
   have g1:I.frozen? ⟨w.heap.size+1+1,1,none⟩=false:=by simp[World.frozen?,u]
   have g2:I.frozen? ⟨w.heap.size+1+1,2,none⟩=false:=by simp[World.frozen?,u]
   clear aa F u ah N;go_wp2;exact cr (v := .tuple #[.agg gG,.bool false]) (by simp[results,results80,go_sem,r0,r1,r2,gG]) rfl (cO HF)
  |true =>
  go_wp2_with fail;refine((cO N) I).mono ?_;rintro e G ⟨rfl,ab⟩;have S:=aa.trans (ab.mono aa.size);have y:=(ab.block _ (cS u)).trans u;have ai:=(ab.block _ (cS ah)).trans ah;have j8:G.cell? ⟨w.heap.size,1,none⟩=some (Z Y n):=(ab.cell (cE I _ j7)).trans j7;clear j7 s7 ab aa u ah N;cases bm with
  |false =>
   have HF:Hid (O (.returned (.tuple #[.agg gG,.bool false])) (((G.setCell ⟨w.heap.size+1+1,0,none⟩ (Z Y 0)).setCell ⟨w.heap.size+1+1,1,none⟩ (.slice none 0 0)).setCell ⟨w.heap.size+1+1,2,none⟩ (Z Y 0))):=(cO F) _ (((S.setCell (p:=⟨w.heap.size+1+1,0,none⟩) (SM _ 2) _).setCell (p:=⟨w.heap.size+1+1,1,none⟩) (SM _ 2) _).setCell (p:=⟨w.heap.size+1+1,2,none⟩) (SM _ 2) _) (λhg=>by have:=cO aw;rw[hg.2.2.1.1,hg.2.2.1.2] at this;simp at this);have r0:G.cell? ⟨w.heap.size+1+1,0,none⟩=some (Z Y 0):=by rw[cn G _ 0 _ _ _ y];rfl
   have r1:G.cell? ⟨w.heap.size+1+1,1,none⟩=some (.slice none 0 0):=by rw[cn G _ 1 _ _ _ y];rfl
   have r2:G.cell? ⟨w.heap.size+1+1,2,none⟩=some (Z Y 0):=by rw[cn G _ 2 _ _ _ y];rfl
   have g0:G.frozen? ⟨w.heap.size+1+1,0,none⟩=false:=by simp[World.frozen?,y]
   have g1:G.frozen? ⟨w.heap.size+1+1,1,none⟩=false:=by simp[World.frozen?,y]
   have g2:G.frozen? ⟨w.heap.size+1+1,2,none⟩=false:=by simp[World.frozen?,y]
   clear S F y ai;go_wp2;exact cr (v := .tuple #[.agg gG,.bool false]) (by simp[results,results80,go_sem,r0,r1,r2,gG]) rfl (cO HF)
  |true =>
  have ay:okB v=true/\(dt v).size=9*n:=by have:=cO av;simpa using this
  have az:okB m=true/\(dt m).size=12*n:=by have:=cO aw;simpa using this
  have aF:=cP (sJ PV PM n G hn (by show _=_;rw[<-cO ag];exact ay.2) (by show _=_;rw[<-cO ax];exact az.2));have aA:Hid (Good cX n k m v j l↔∀i,i<n->bt PV (9*i+8)<=1):=by
   show _↔_
   rw[<-cO ag];exact⟨λh=>h.2.2.2,λh=>⟨by rw[cO ae,cO au];exact cO a6,ay,az,h⟩⟩
  clear ay az;go_wp2_with fail;refine(cO aF).mono ?_;rintro e B ⟨U,an,aG⟩;have aH:=S.trans (U.mono S.size);have D:=(U.block _ (cS y)).trans y;have T:=(U.block _ (cS ai)).trans ai;obtain⟨R,hR⟩:∃R,w.heap.size+1+1=R:=⟨_,rfl⟩
  rw[hR] at D;have aI:R≠L:=by omega
  have aj:w.heap.size<=R:=by omega
  have aJ:w.heap.size<=L:=by omega
  have aK:Hid (∃(q:Option Addr) (nn J:Nat) (ok:Bool),e=.returned (.tuple #[.slice q nn J,.bool ok])/\Hid (O (.returned (.tuple #[.agg #[Z Y j,.slice q nn J,Z Y l],.bool ok])) ((((B.setCell ⟨L,1,none⟩ (.slice q nn J)).setCell ⟨R,0,none⟩ (Z Y j)).setCell ⟨R,1,none⟩ (.slice q nn J)).setCell ⟨R,2,none⟩ (Z Y l)))):=by
   show ∃_,_
   have aL:∀s:TK,TI w ((((B.setCell ⟨L,1,none⟩ s).setCell ⟨R,0,none⟩ (Z Y j)).setCell ⟨R,1,none⟩ s).setCell ⟨R,2,none⟩ (Z Y l)):=λs =>
    (((aH.setCell (p:=⟨L,1,none⟩) aJ _).setCell (p:=⟨R,0,none⟩) aj _).setCell (p:=⟨R,1,none⟩) aj _).setCell (p:=⟨R,2,none⟩) aj _
   by_cases hr:∀i,i<n->bt PV (9*i+8)<=1
   .obtain⟨sl,rfl,ho⟩:=an hr;obtain⟨q,J,rfl⟩:=lW ho;refine⟨q,n,J,true,rfl,?_⟩
    show O _ _
    rw[<-cO hO];refine⟨aL _,λ_=>⟨_,rfl,?_⟩,λh=>absurd ((cO aA).2 hr) h⟩;have ak:∀(W:TJ) (A i:Nat) (x:TK) (c:Array TK),W.heap[A]?=some (.cells c 80 (0,0))->∀{xs:List TK},W.ownsRow G.heap.size 104 4 (.slice q n J) n xs->(W.setCell ⟨A,i,none⟩ x).ownsRow G.heap.size 104 4 (.slice q n J) n xs:=λW A i x c hA xs hx =>
     v8 hx (λe=>by obtain⟨z,hz,_⟩:=cZ hx e;exact cY hz hA (by decide) rfl) _
    have hh:w.heap.size<=G.heap.size:=S.size;rw[cO ag,cO ax];refine Rd.mE ?_ hh;have o1:=ak B L 1 (.slice q n J) _ T ho;have E1:(B.setCell ⟨L,1,none⟩ (.slice q n J)).heap[R]?=_:=(cG _ _ _ _ (λe=>aI e)).trans D;have o2:=ak _ R 0 (Z Y j) _ E1 o1;have E2:=cA _ R 0 _ _ (Z Y (j:Int)) E1;have o3:=ak _ R 1 (.slice q n J) _ E2 o2;have E3:=cA _ R 1 _ _ (.slice q n J) E2;exact ak _ R 2 (Z Y l) _ E3 o3
   .obtain rfl:=aG hr;refine⟨none,0,0,false,rfl,?_⟩
    show O _ _
    rw[<-cO hO];exact⟨aL _,λh=>absurd ((cO aA).1 h) hr,λ_=>⟨_,_,rfl⟩⟩
  clear an aG U S aH aF aA F y ai j8;obtain⟨q,nn,J,ok,rfl,HF⟩:=cO aK;clear aK;have r0:B.cell? ⟨R,0,none⟩=some (Z Y 0):=by rw[cn B _ 0 _ _ _ D];rfl
  have r1:B.cell? ⟨R,1,none⟩=some (.slice none 0 0):=by rw[cn B _ 1 _ _ _ D];rfl
  have r2:B.cell? ⟨R,2,none⟩=some (Z Y 0):=by rw[cn B _ 2 _ _ _ D];rfl
  have l0:B.cell? ⟨L,0,none⟩=some (Z Y j):=by rw[cn B _ 0 _ _ _ T];rfl
  have l1:B.cell? ⟨L,1,none⟩=some (.slice none 0 0):=by rw[cn B _ 1 _ _ _ T];rfl
  have l2:B.cell? ⟨L,2,none⟩=some (Z Y l):=by rw[cn B _ 2 _ _ _ T];rfl
  have g0:B.frozen? ⟨R,0,none⟩=false:=by simp[World.frozen?,D]
  have g1:B.frozen? ⟨R,1,none⟩=false:=by simp[World.frozen?,D]
  have g2:B.frozen? ⟨R,2,none⟩=false:=by simp[World.frozen?,D]
  have f1:B.frozen? ⟨L,1,none⟩=false:=by simp[World.frozen?,T]
  rw[hR];clear D T hR aj aJ aN;go_wp2;exact cr (v := .tuple #[.agg #[Z Y j,.slice q nn J,Z Y l],.bool ok]) (by simp[results,results80,go_sem,r0,r1,r2,l0,l1,l2,aI]) rfl (cO HF)
 .have o:(!k.toList == SB.toList)=true:=by rw[cC.2 (λh=>t (Sd.toList_inj h))];rfl
  simp only[o];clear o;have HF:Hid (O (.returned (.tuple #[.agg gG,.bool false])) (((H.setCell ⟨w.heap.size+1+1,0,none⟩ (Z Y 0)).setCell ⟨w.heap.size+1+1,1,none⟩ (.slice none 0 0)).setCell ⟨w.heap.size+1+1,2,none⟩ (Z Y 0))):=(cO F) _ (((X.setCell (p:=⟨w.heap.size+1+1,0,none⟩) (SM _ 2) _).setCell (p:=⟨w.heap.size+1+1,1,none⟩) (SM _ 2) _).setCell (p:=⟨w.heap.size+1+1,2,none⟩) (SM _ 2) _) (λhg=>t (by rw[hg.1,cO ae,cO au]));have r0:H.cell? ⟨w.heap.size+1+1,0,none⟩=some (Z Y 0):=by rw[cn H _ 0 _ _ _ r];rfl
  have r1:H.cell? ⟨w.heap.size+1+1,1,none⟩=some (.slice none 0 0):=by rw[cn H _ 1 _ _ _ r];rfl
  have r2:H.cell? ⟨w.heap.size+1+1,2,none⟩=some (Z Y 0):=by rw[cn H _ 2 _ _ _ r];rfl
  have g0:H.frozen? ⟨w.heap.size+1+1,0,none⟩=false:=by simp[World.frozen?,r]
  have g1:H.frozen? ⟨w.heap.size+1+1,1,none⟩=false:=by simp[World.frozen?,r]
  have g2:H.frozen? ⟨w.heap.size+1+1,2,none⟩=false:=by simp[World.frozen?,r]
  clear aD X F r af;go_wp2;exact cr (v := .tuple #[.agg gG,.bool false]) (by simp[results,results80,go_sem,r0,r1,r2,gG]) rfl (cO HF)
end Ru
namespace Ru
open Go.RowKit
open Sp (nJ lO ie bt dj dt okB)
open Rd (Rk)
open Pk (jo Sm cZ cS cY)
theorem L4{Q:Rk}{n b:Nat}(h:Sm Q n b)(a:TM):(Q.rd a).size<=b:=by
 unfold Rk.rd;split
 .exact cy _
 .cases Rd.dp Q.now a with
  |none=>exact cy _
  |some i=>exact h.fl i
abbrev JQ(F:TM->TM)(n b:Nat):List TK:=jm (fR F n b).val (fR F n b).fC (fR F n b).iK (fR F n b).je n
def BS(Q:Rk)(n cX:Nat)(a:TM)(w:TJ)(e:Ending)(w':TJ):Prop:=TI w w'/\
 (∀b,Fm Q.rd n cX a b->∃sl,e=.returned (.tuple #[.agg #[Z Y b,sl,Z Y (fR Q.rd n b).all],.bool true])/\w'.ownsRow w.heap.size 104 4 sl n (JQ Q.rd n b))/\
 ((∀b,¬Fm Q.rd n cX a b)->∃s j:Int,e=.returned (.tuple #[.agg #[Z Y s,.slice none 0 0,Z Y j],.bool false]))
def Fb(W:TJ)(S D L cX n b:Nat):Prop:=(W.cell? ⟨S,0,none⟩=some (.pointer (some ⟨D,0,none⟩))/\W.cell? ⟨S,1,none⟩=some (Z .u32 cX)/\W.cell? ⟨S,2,none⟩=some (Z Y n))/\W.cell? ⟨L,0,none⟩=some (Z Y b)
theorem Fb.below{W b:TJ}{S D L cX n e:Nat}(h:Fb W S D L cX n e)(hb:TI W b):Fb b S D L cX n e:=by
 obtain⟨⟨l,m,r⟩,u⟩:=h;have f:∀{p:Addr} {x:TK},W.cell? p=some x->b.cell? p=some x:=λ{p x} j=>(hb.cell (cE W _ j)).trans j
 exact⟨⟨f l,f m,f r⟩,f u⟩
theorem Iy(S D E nn b cX n:Nat)(Q R:Rk)(O:Nat->Prop)(a:TM)(w:TJ)(h:jo w D E Q R O)(hs:Sm Q nn b)(aF:nn<=1000000000)(r:b<=2097152)(hn:n<=64)(hj:cX<4294967296)(aB:gh w)(c0:w.cell? ⟨S,0,none⟩=some (.pointer (some ⟨D,0,none⟩)))(c1:w.cell? ⟨S,1,none⟩=some (Z .u32 cX))(c2:w.cell? ⟨S,2,none⟩=some (Z Y n)):TL prog 45 #[.pointer (some ⟨S,0,none⟩),.string a] w (BS Q n cX a w):=by
 generalize hO:BS Q n cX a w=O';replace hO:=cP hO;have ah:Hid (∀(W:TJ) (y:TM),TI w W->TL prog 77 #[.pointer (some ⟨S,0,none⟩),.string y] W λe l=>e=.returned (.string (Q.rd y))/\TI W l):=λW y hW =>
  AR S D E nn b Q R O y W (h.below hW) hs aF ((hW.cell (cE w _ c0)).trans c0)
 have g:=cP (λy=>L4 hs y);have aa:Hid (∀W,TI w W->(∀m,¬Fm Q.rd n cX a m)->∀s ar:Int,O' (.returned (.tuple #[.agg #[Z Y s,.slice none 0 0,Z Y ar],.bool false])) W):=λW X hg s ar=>by
  rw[<-cO hO];exact⟨X,λm h=>absurd h (hg m),λ_=>⟨s,ar,rfl⟩⟩
 have ai:=cP aB;have C0:=cP c0;have C1:=cP c1;have C2:=cP c2;have aC:Hid (∀W,W=w.alloc (.cells gG 80)->W.heap[w.heap.size]?=some (.cells gG 80 (0,0))/\TI w W):=by
  show ∀W,_
  rintro W rfl;exact⟨ct w _,(cj _ w).alloc TG _⟩
 clear h hs aB c0 c1 c2;go_enter func45,ntmps45;go_wp2_with fail;generalize hW:World.alloc _ _=W0;obtain⟨au,aj⟩:=cO aC W0 hW.symm;clear hW aC;refine((cO ah) W0 a aj).mono ?_;rintro e w1 ⟨rfl,av⟩;have E1:=(av.block _ (cS au)).trans au;have ab:=aj.trans (av.mono aj.size);clear av aj au;have sK:=(cO g) a;by_cases H:okB (Q.rd a)=true/\(dt (Q.rd a)).size=24
 .obtain⟨m,I⟩:∃m,Hid (num (dt (Q.rd a)) 0 4=m):=⟨_,rfl⟩
  obtain⟨al,ad⟩:∃al,Hid (pR (num (dt (Q.rd a)) 4 8)=al):=⟨_,rfl⟩
  have G:=cP (ru (Q.rd a) w1 (by omega) H.1 H.2);have ak:=cP H;rw[cO I,cO ad] at G;obtain⟨K,HK⟩:∃K,Hid (Q.rd a=K):=⟨_,rfl⟩
  rw[cO HK] at G I ad ak sK ⊢;clear H;go_wp2_with fail;refine(cO G).mono ?_;rintro e w2 ⟨rfl,r⟩;have hA:TI w2 (w2.alloc (.cells #[Z Y m,.slice none 0 0,Z Y al] 80)):=TH.alloc TG _;have ae:=ct w2 (.cells #[Z Y m,.slice none 0 0,Z Y al] 80);have J:=r.trans (hA.mono r.size);have P:=(J.block _ (cS E1)).trans E1;have C:=ab.trans (J.mono ab.size);have aG:w.heap.size<w2.heap.size:=dT (cS E1) r.size;clear G r hA J E1 ab;go_upto_region 3 with fail;obtain⟨L,hL⟩:∃L,w2.heap.size=L:=⟨_,rfl⟩
  rw[hL] at ae aG;generalize aH:World.alloc _ _=w3 at P C ae ⊢;clear aH
  try rw[hL]
  clear hL;have aS:m<4294967296:=by rw[<-cO I];exact gV _ 4 0
  have l0:w3.cell? ⟨L,0,none⟩=some (Z Y m):=by rw[cn w3 _ 0 _ _ _ ae];rfl
  have aw:=cP (kO m w3 (by omega) ((cO ai).below C));obtain⟨N,HN⟩:∃N,Hid (nm 99 m=N):=⟨_,rfl⟩
  rw[cO HN] at aw;go_wp2_with fail;refine(cO aw).mono ?_;rintro e t ⟨rfl,an⟩;have E4:=(an.block _ (cS P)).trans P;have ax:=(an.block _ (cS ae)).trans ae;have T:=C.trans (an.mono C.size);clear an P ae C l0 aw;by_cases af:N=a
  .have aD:=cP af;have hz:(N.toList == a.toList)=true:=Bs.2 (by rw[af]);clear af;obtain⟨N1,ag⟩:∃N,Hid (nm 109 m=N):=⟨_,rfl⟩
   obtain⟨N2,U⟩:∃N,Hid (nm 118 m=N):=⟨_,rfl⟩
   obtain⟨M,HM⟩:∃N,Hid (Q.rd N1=N):=⟨_,rfl⟩
   obtain⟨V,HV⟩:∃N,Hid (Q.rd N2=N):=⟨_,rfl⟩
   have sM:M.size<=4194304:=by rw[<-cO HM];have:=(cO g) N1;omega
   have sV:V.size<=4194304:=by rw[<-cO HV];have:=(cO g) N2;omega
   have ao:Hid (∀s,Fm Q.rd n cX a s↔s=m/\Good cX n K M V m al):=λs=>by
    obtain⟨k1,k2⟩:=cO ak;constructor
    .rintro⟨h1,h2,h3,h4,h5,h6,h7,h8,h9,ay⟩;rw[cO HK,cO I] at h3;subst h3;rw[cO U] at h5 h6 h7 ay;rw[cO ag] at h5 h8 h9;rw[cO HK,cO ad,cO HM,cO HV] at h5;rw[cO HV] at h6 h7 ay;rw[cO HM] at h8 h9;exact⟨rfl,h5,⟨h6,h7⟩,⟨h8,h9⟩,ay⟩
    .rintro⟨rfl,g1,⟨g2,g3⟩,⟨g4,g5⟩,g6⟩;refine⟨by rw[cO HK];exact k1,by rw[cO HK];exact k2,by rw[cO HK,cO I],by rw[cO HN];exact cO aD,?_,?_,?_,?_,?_,?_⟩
     .rw[cO ag,cO U,cO HK,cO ad,cO HM,cO HV];exact g1
     .rw[cO U,cO HV];exact g2
     .rw[cO U,cO HV];exact g3
     .rw[cO ag,cO HM];exact g4
     .rw[cO ag,cO HM];exact g5
     .rw[cO U,cO HV];exact g6
   have aI:Fb t S D L cX n m:=⟨⟨(T.cell (cE w _ (cO C0))).trans (cO C0),(T.cell (cE w _ (cO C1))).trans (cO C1),(T.cell (cE w _ (cO C2))).trans (cO C2)⟩,by rw[cn t _ 0 _ _ _ ax];rfl⟩
   have aT:Hid (TI w t.drew/\t.drew.heap[w.heap.size]?=some (.cells gG 80 (0,0))):=⟨T.drew,E4⟩
   have o:∀{W W':TJ},Fb W S D L cX n m->Hid (TI w W/\W.heap[w.heap.size]?=some (.cells gG 80 (0,0)))->TI W W'->Fb W' S D L cX n m/\Hid (TI w W'/\W'.heap[w.heap.size]?=some (.cells gG 80 (0,0))):=λ{W W'} hF F hB=>⟨hF.below hB,(cO F).1.trans (hB.mono (cO F).1.size),(hB.block _ (cS (cO F).2)).trans (cO F).2⟩
   have aJ:Hid (∀W,Fb W S D L cX n m->Hid (TI w W/\W.heap[w.heap.size]?=some (.cells gG 80 (0,0)))->TL prog 81 #[Z Y m] W λe l=>e=.returned (.string N1)/\Fb l S D L cX n m/\Hid (TI w l/\l.heap[w.heap.size]?=some (.cells gG 80 (0,0)))):=λW hF F=>by
    have h:=iX m W (by omega) ((cO ai).below (cO F).1);rw[cO ag] at h;exact h.mono λe l ⟨he,X⟩=>⟨he,o hF F X⟩
   have aK:Hid (∀W,Fb W S D L cX n m->Hid (TI w W/\W.heap[w.heap.size]?=some (.cells gG 80 (0,0)))->TL prog 82 #[Z Y m] W λe l=>e=.returned (.string N2)/\Fb l S D L cX n m/\Hid (TI w l/\l.heap[w.heap.size]?=some (.cells gG 80 (0,0)))):=λW hF F=>by
    have h:=kP m W (by omega) ((cO ai).below (cO F).1);rw[cO U] at h;exact h.mono λe l ⟨he,X⟩=>⟨he,o hF F X⟩
   have aL:Hid (∀(W:TJ) (y j:TM),Hid (Q.rd y=j)->Fb W S D L cX n m->Hid (TI w W/\W.heap[w.heap.size]?=some (.cells gG 80 (0,0)))->TL prog 77 #[.pointer (some ⟨S,0,none⟩),.string y] W λe l=>e=.returned (.string j)/\Fb l S D L cX n m/\Hid (TI w l/\l.heap[w.heap.size]?=some (.cells gG 80 (0,0)))):=λW y j hz hF F=>by
    have h:=(cO ah) W y (cO F).1;rw[cO hz] at h;exact h.mono λe l ⟨he,X⟩=>⟨he,o hF F X⟩
   have aM:S≠w.heap.size:=Nat.ne_of_lt (cE w _ (cO C0));have aN:L≠w.heap.size:=by omega
   have az:∀{W:TJ},Fb W S D L cX n m->∀x y z:TK,Fb (((W.setCell ⟨w.heap.size,0,none⟩ x).setCell ⟨w.heap.size,1,none⟩ y).setCell ⟨w.heap.size,2,none⟩ z) S D L cX n m:=λ{W} hF x y z=>by
    have f1:∀{W:TJ} (i:Nat) (u:TK),Fb W S D L cX n m->Fb (W.setCell ⟨w.heap.size,i,none⟩ u) S D L cX n m:=λ{W} i u hF=>by
     obtain⟨⟨a1,a2,a3⟩,c1⟩:=hF;have eS:=cG W ⟨w.heap.size,i,none⟩ u S aM;have eL:=cG W ⟨w.heap.size,i,none⟩ u L aN;exact⟨⟨(CN (w:=W) eS).trans a1,(CN (w:=W) eS).trans a2,(CN (w:=W) eS).trans a3⟩,(CN (w:=W) eL).trans c1⟩
    exact f1 2 z (f1 1 y (f1 0 x hF))
   have aO:Hid (∀W,Fb W S D L cX n m->Hid (TI w W/\W.heap[w.heap.size]?=some (.cells gG 80 (0,0)))->TL prog 80 #[.agg #[Z .u32 cX,Z Y n],.agg #[.string K,.string M,.string V]] W λe l=>∃(s:Int) (q:Option Addr) (qn cq:Nat) (a':Int) (ok:Bool),e=.returned (.tuple #[.agg #[Z Y s,.slice q qn cq,Z Y a'],.bool ok])/\(Fb l S D L cX n m/\Fb (((l.setCell ⟨w.heap.size,0,none⟩ (Z Y s)).setCell ⟨w.heap.size,1,none⟩ (.slice q qn cq)).setCell ⟨w.heap.size,2,none⟩ (Z Y a')) S D L cX n m)/\(l.cell? ⟨w.heap.size,0,none⟩=some (Z Y 0)/\l.cell? ⟨w.heap.size,1,none⟩=some (.slice none 0 0)/\l.cell? ⟨w.heap.size,2,none⟩=some (Z Y 0))/\(l.frozen? ⟨w.heap.size,0,none⟩=false/\l.frozen? ⟨w.heap.size,1,none⟩=false/\l.frozen? ⟨w.heap.size,2,none⟩=false)/\Hid (O' (.returned (.tuple #[.agg #[Z Y s,.slice q qn cq,Z Y a'],.bool ok])) (((l.setCell ⟨w.heap.size,0,none⟩ (Z Y s)).setCell ⟨w.heap.size,1,none⟩ (.slice q qn cq)).setCell ⟨w.heap.size,2,none⟩ (Z Y a')))):=λW aq F=>by
    obtain⟨k1,k2⟩:=cO ak;refine(uP cX n K M V m al W hn hj (by omega) sM sV k1 k2 (cO I) (cO ad)).mono ?_;rintro e l ⟨X,hy,aP⟩;have hE:=(X.block _ (cS (cO F).2)).trans (cO F).2;have aQ:=(cO F).1.trans (X.mono (cO F).1.size);have aE:∀x y z:TK,TI w (((l.setCell ⟨w.heap.size,0,none⟩ x).setCell ⟨w.heap.size,1,none⟩ y).setCell ⟨w.heap.size,2,none⟩ z):=λx y z =>
     ((aQ.setCell (p:=⟨w.heap.size,0,none⟩) TG _).setCell (p:=⟨w.heap.size,1,none⟩) TG _).setCell (p:=⟨w.heap.size,2,none⟩) TG _
    have hc:(l.cell? ⟨w.heap.size,0,none⟩=some (Z Y 0)/\l.cell? ⟨w.heap.size,1,none⟩=some (.slice none 0 0)/\l.cell? ⟨w.heap.size,2,none⟩=some (Z Y 0)):=⟨by rw[cn l _ 0 _ _ _ hE];rfl,by rw[cn l _ 1 _ _ _ hE];rfl,by rw[cn l _ 2 _ _ _ hE];rfl⟩
    have hf:(l.frozen? ⟨w.heap.size,0,none⟩=false/\l.frozen? ⟨w.heap.size,1,none⟩=false/\l.frozen? ⟨w.heap.size,2,none⟩=false):=⟨by simp[World.frozen?,hE],by simp[World.frozen?,hE],by simp[World.frozen?,hE]⟩
    by_cases hg:Good cX n K M V m al
    .obtain⟨sl,rfl,ho⟩:=hy hg;obtain⟨q,cq,rfl⟩:=lW ho;refine⟨_,q,n,cq,al,true,rfl,⟨aq.below X,az (aq.below X) _ _ _⟩,hc,hf,?_⟩
     show O' _ _
     rw[<-cO hO];refine⟨aE _ _ _,λs hs=>?_,λh=>absurd ((cO ao m).2 ⟨rfl,hg⟩) (h m)⟩;obtain⟨rfl,_⟩:=(cO ao s).1 hs;have ea:(fR Q.rd n s).all=al:=by rw[sx,cO HN,cO aD,cO HK,cO ad]
     refine⟨_,by rw[ea],?_⟩;have ev:JQ Q.rd n s=jm (gC (dt V) (dt M) ⟨#[]⟩ n).val (gC (dt V) (dt M) ⟨#[]⟩ n).fC (gC (dt V) (dt M) ⟨#[]⟩ n).iK (gC (dt V) (dt M) ⟨#[]⟩ n).je n:=by
      unfold JQ fR;rw[cO ag,cO U,cO HM,cO HV]
      rfl
     rw[ev];have aA:∀(W:TJ) (A i:Nat) (x:TK) (c:Array TK),W.heap[A]?=some (.cells c 80 (0,0))->∀{B:Nat} {xs:List TK},W.ownsRow B 104 4 (.slice q n cq) n xs->(W.setCell ⟨A,i,none⟩ x).ownsRow B 104 4 (.slice q n cq) n xs:=λW A i x c hA B xs hx =>
      v8 hx (λe=>by obtain⟨z,hz,_⟩:=cZ hx e;exact cY hz hA (by decide) rfl) _
     refine Rd.mE ?_ (cO F).1.size;have o2:=aA _ w.heap.size 0 (Z Y (s:Int)) _ hE ho;have E2:=cA _ w.heap.size 0 _ _ (Z Y (s:Int)) hE;have o3:=aA _ w.heap.size 1 (.slice q n cq) _ E2 o2;have P:=cA _ w.heap.size 1 _ _ (.slice q n cq) E2;exact aA _ w.heap.size 2 (Z Y al) _ P o3
    .obtain⟨s,a',rfl⟩:=aP hg;refine⟨s,none,0,0,a',false,rfl,⟨aq.below X,az (aq.below X) _ _ _⟩,hc,hf,?_⟩;exact(cO aa) _ (aE _ _ _) (λs hs=>hg ((cO ao s).1 hs).2) s a'
   clear o aa ah g ao T E4 ax C0 C1 C2 ai ak az;obtain⟨⟨j0,j1,j2⟩,l0⟩:=aI;go_upto_region 5 with fail
   go_region_held3 (λl=>(l.cell? ⟨S,0,none⟩=some (.pointer (some ⟨D,0,none⟩))/\l.cell? ⟨S,1,none⟩=some (Z .u32 cX)/\l.cell? ⟨S,2,none⟩=some (Z Y n))/\l.cell? ⟨L,0,none⟩=some (Z Y m))
    (exact⟨⟨by assumption,by assumption,by assumption⟩,by assumption⟩)
    (first
     |(go_at_call 81;refine((cO aJ) _ (by exact⟨⟨by assumption,by assumption,by assumption⟩,by assumption⟩) (by assumption)).mono ?_;rintro e w5 ⟨rfl,⟨⟨aU,aV,aW⟩,aX⟩,aY⟩)
     |(go_at_call 82;refine((cO aK) _ (by exact⟨⟨by assumption,by assumption,by assumption⟩,by assumption⟩) (by assumption)).mono ?_;rintro e w6 ⟨rfl,⟨⟨aZ,a6,a7⟩,a8⟩,ba⟩)
     |(go_at_call 77;refine((cO aL) _ _ _ (by assumption) (by exact⟨⟨by assumption,by assumption,by assumption⟩,by assumption⟩) (by assumption)).mono ?_;rintro e w7 ⟨rfl,⟨⟨bc,bd,bg⟩,bh⟩,bj⟩)
     |(go_at_call 80;refine((cO aO) _ (by exact⟨⟨by assumption,by assumption,by assumption⟩,by assumption⟩) (by assumption)).mono ?_;rintro e w9 ⟨s,q,qn,cq,a',ok,rfl,⟨⟨⟨bk,bn,bo⟩,bp⟩,⟨⟨bq,z91,br⟩,z93⟩⟩,⟨r0,r1,r2⟩,⟨g0,g1,g2⟩,HF⟩))
   all_goals
    go_wp2;exact cr (v := .tuple #[.agg #[Z Y s,.slice q qn cq,Z Y a'],.bool ok]) (by simp[results,results45,go_sem,r0,r1,r2]) rfl (cO HF)
  .have hz:(N.toList == a.toList)=false:=cC.2 (λh=>af (Sd.toList_inj h));have HF:Hid (O' (.returned (.tuple #[.agg gG,.bool false])) (((t.setCell ⟨w.heap.size,0,none⟩ (Z Y 0)).setCell ⟨w.heap.size,1,none⟩ (.slice none 0 0)).setCell ⟨w.heap.size,2,none⟩ (Z Y 0))):=(cO aa) _ (((T.setCell (p:=⟨w.heap.size,0,none⟩) TG _).setCell (p:=⟨w.heap.size,1,none⟩) TG _).setCell (p:=⟨w.heap.size,2,none⟩) TG _) (λs hg=>af (by have e:=hg.Rf;rw[cO HK,cO I] at e;subst e;rw[<-cO HN];exact hg.Re)) 0 0;have r0:t.cell? ⟨w.heap.size,0,none⟩=some (Z Y 0):=by rw[cn t _ 0 _ _ _ E4];rfl
   have r1:t.cell? ⟨w.heap.size,1,none⟩=some (.slice none 0 0):=by rw[cn t _ 1 _ _ _ E4];rfl
   have r2:t.cell? ⟨w.heap.size,2,none⟩=some (Z Y 0):=by rw[cn t _ 2 _ _ _ E4];rfl
   have g0:t.frozen? ⟨w.heap.size,0,none⟩=false:=by simp[World.frozen?,E4]
   have g1:t.frozen? ⟨w.heap.size,1,none⟩=false:=by simp[World.frozen?,E4]
   have g2:t.frozen? ⟨w.heap.size,2,none⟩=false:=by simp[World.frozen?,E4]
   clear E4 ax T aa ah g af;go_wp2;exact cr (v := .tuple #[.agg gG,.bool false]) (by simp[results,results45,go_sem,r0,r1,r2,gG]) rfl (cO HF)
 .have G:=cP (zp (Q.rd a) w1 (by omega) H);have HF:Hid (∀W,TI w W->O' (.returned (.tuple #[.agg gG,.bool false])) (((W.setCell ⟨w.heap.size,0,none⟩ (Z Y 0)).setCell ⟨w.heap.size,1,none⟩ (.slice none 0 0)).setCell ⟨w.heap.size,2,none⟩ (Z Y 0))):=λW hW =>
   (cO aa) _ (((hW.setCell (p:=⟨w.heap.size,0,none⟩) TG _).setCell (p:=⟨w.heap.size,1,none⟩) TG _).setCell (p:=⟨w.heap.size,2,none⟩) TG _) (λm hg=>H ⟨hg.ok,hg.sz⟩) 0 0
  generalize Q.rd a=K at G ⊢;clear H aa sK ah g;go_wp2_with fail;refine(cO G).mono ?_;rintro e w2 ⟨rfl,r⟩;have hA:TI w2 (w2.alloc (.cells gG 80)):=TH.alloc TG _;have J:=r.trans (hA.mono r.size);have P:=(J.block _ (cS E1)).trans E1;have C:=ab.trans (J.mono ab.size);clear G r hA J E1 ab;go_upto_region 3 with fail;generalize World.alloc _ _=w3 at P C ⊢;have aR:=cP ((cO HF) w3 C);have r0:w3.cell? ⟨w.heap.size,0,none⟩=some (Z Y 0):=by rw[cn w3 _ 0 _ _ _ P];rfl
  have r1:w3.cell? ⟨w.heap.size,1,none⟩=some (.slice none 0 0):=by rw[cn w3 _ 1 _ _ _ P];rfl
  have r2:w3.cell? ⟨w.heap.size,2,none⟩=some (Z Y 0):=by rw[cn w3 _ 2 _ _ _ P];rfl
  have g0:w3.frozen? ⟨w.heap.size,0,none⟩=false:=by simp[World.frozen?,P]
  have g1:w3.frozen? ⟨w.heap.size,1,none⟩=false:=by simp[World.frozen?,P]
  have g2:w3.frozen? ⟨w.heap.size,2,none⟩=false:=by simp[World.frozen?,P]
  clear P C HF;go_wp2;exact cr (v := .tuple #[.agg gG,.bool false]) (by simp[results,results45,go_sem,r0,r1,r2,gG]) rfl (cO aR)
end Ru
namespace Ru
open Go.RowKit
open Rd (Rk)
open Pk (jo Sm cZ cS cY)
open Dk (Kept)
open Classical
def Kn(D cX n cU:Nat)(v:TK):Array TK := #[.pointer (some ⟨D,0,none⟩),Z .u32 (cX:Int),Z Y (n:Int),Z Y (cU:Int),v]
structure gF (w:TJ) (S D cX n cU:Nat) (v:TK) (T:Sn.Tb):Prop where
 tab:Rt.eV w S 4 (Kn D cX n cU v) 113 v T
 ne:v.ownBlock≠some S
variable {n cX S cU D:Nat}{w w':TJ}{T:Sn.Tb}{v:TK}
theorem gF.below(h:gF w S D cX n cU v T)(hb:TI w w'): gF w' S D cX n cU v T:=⟨h.tab.below hb,h.ne⟩
theorem gF.c0(h:gF w S D cX n cU v T): w.cell? ⟨S,0,none⟩=some (.pointer (some ⟨D,0,none⟩)):=by rw[cn w S 0 _ _ _ h.tab.blk];rfl
theorem gF.c1(h:gF w S D cX n cU v T): w.cell? ⟨S,1,none⟩=some (Z .u32 (cX:Int)):=by rw[cn w S 1 _ _ _ h.tab.blk];rfl
theorem gF.c2(h:gF w S D cX n cU v T): w.cell? ⟨S,2,none⟩=some (Z Y (n:Int)):=by rw[cn w S 2 _ _ _ h.tab.blk];rfl
theorem gF.c3(h:gF w S D cX n cU v T): w.cell? ⟨S,3,none⟩=some (Z Y (cU:Int)):=by rw[cn w S 3 _ _ _ h.tab.blk];rfl
theorem gF.lt(h:gF w S D cX n cU v T): S<w.heap.size:=cS h.tab.blk
def qj(S:Nat)(v:TK)(k:Nat):Prop:=k=S\/v.ownBlock=some k
variable {v':TK}
theorem gF.new{j:Sn.Tb}(h:gF w S D cX n cU v T)(l:Rt.dK w w' S 4 (Kn D cX n cU v) 113 v v' j)(m:Sn.da j)(r:j.length<=1000000000): gF w' S D cX n cU v' j:=by
 refine⟨⟨l.blk,rfl,l.row,m,r⟩,λb=>?_⟩;rcases l.new with e|⟨g,e,u⟩
 .rw[e] at b;exact h.ne b
 .rw[e] at b;have b:g=S:=iP b;have:=h.lt;omega
theorem gF.kept{b:Nat->Prop}(h:gF w S D cX n cU v T)(e:Kept w w' b)(j:∀k,qj S v k->b k): gF w' S D cX n cU v T:=⟨⟨(e.block S h.lt (j S (Or.inl rfl))).trans h.tab.blk,h.tab.at_,Dk.du h.tab.row e (λg l=>j g (Or.inr l)),h.tab.mg,h.tab.len⟩,h.ne⟩
theorem gF.uj{y:Sn.Tb}(h:gF w S D cX n cU v T)(z:Rt.dK w w' S 4 (Kn D cX n cU v) 113 v v' y){B e size m:Nat}{u:TK}{j:List TK}(hu:w.ownsRow B e size u m j)(he:e≠113/\e≠181): w'.ownsRow B e size u m j:=Dk.du hu z.kept λg A=>by
  obtain⟨C,l,_⟩:=cZ hu A;refine⟨cY l h.tab.blk he.1,λE=>?_⟩;obtain⟨r,b,_⟩:=cZ h.tab.row E;exact cY l b he.2 rfl
def II(w:TJ)(B:Nat)(F:TM->TM)(n:Nat)(x:Nat × Sn.Ce):Prop:=x.2.n=n/\x.2.al=(fR F n x.1).all/\w.ownsRow B 104 4 (.slice x.2.p n x.2.c) n (JQ F n x.1)
structure Ct (w0:TJ) (S D cX n cU:Nat) (F:TM->TM) (vL:TK) (L:List TM) (wr:TJ) (k:Nat) (v:TK) (T:Sn.Tb):Prop where
 lL:TI w0 wr
 sS:w0.heap.size<=S
 sh:gF wr S D cX n cU v T
 own:∀g,v.ownBlock=some g->w0.heap.size<=g
 keys:∀s,(∃e,(s,e)∈T)↔s∈fT F n cX (L.take k)
 Bn:∀x∈T,II wr w0.heap.size F n x
 names:wr.ownsRow w0.heap.size 9 1 vL L.length (Rd.strs L)
 len:T.length<=k
variable {L:List TM}{F:TM->TM}{wr w0:TJ}{vL:TK}{k:Nat}
theorem Ct.below(h:Ct w0 S D cX n cU F vL L wr k v T)(hb:TI wr w'): Ct w0 S D cX n cU F vL L w' k v T:=⟨h.lL.trans (hb.mono h.lL.size),h.sS,h.sh.below hb,h.own,h.keys,λx b=>⟨(h.Bn x b).1,(h.Bn x b).2.1,cW (h.Bn x b).2.2 hb⟩,cW h.names hb,h.len⟩
theorem Ct.no(h:Ct w0 S D cX n cU F vL L wr k v T)(e:k<L.length)(b:∀j,¬Fm F n cX L[k] j): Ct w0 S D cX n cU F vL L wr (k+1) v T:=by
 refine⟨h.lL,h.sS,h.sh,h.own,λs=>?_,h.Bn,h.names,by have:=h.len;omega⟩;rw[h.keys,tK e];have:tU (Fq F n cX) L[k]=none:=by
  cases l:tU (Fq F n cX) L[k] with
  |none=>rfl
  |some t =>
   obtain⟨m,r⟩:=nF l;have:=r.QT;rw[<-m] at this;exact absurd this (b t)
 rw[this]
theorem H7{b:Nat}{a:TM}(h:Fm F n cX a b): tU (Fq F n cX) a=some b:=by
 obtain⟨e,j,l⟩:=La.1 h;unfold tU;rw[e];simp only;rw[cg ⟨j,l⟩]
theorem Ct.add{r:Nat}{q:Option Addr}{C:Nat}{E:Int}(h:Ct w0 S D cX n cU F vL L wr k v T)(J:k<L.length)(O:L.length<=1000000000)(K:Fm F n cX L[k] r)(G:E=(fR F n r).all)(z:wr.ownsRow w0.heap.size 104 4 (.slice q n C) n (JQ F n r))(m:Rt.dK wr w' S 4 (Kn D cX n cU v) 113 v v' (if Sn.dw T r=true then T else Sn.gI T r ⟨q,n,C,E⟩)): Ct w0 S D cX n cU F vL L w' (k+1) v' (if Sn.dw T r=true then T else Sn.gI T r ⟨q,n,C,E⟩):=by
 have u:TI w0 w':=by
  refine h.lL.trans (m.kept.toBelow h.lL.size λj P=>⟨λe=>?_,λe=>?_⟩)
  .have:=h.sS;omega
  .have:=h.own j e;omega
 have I:=h.len;have b:∀s,s∈fT F n cX (L.take (k+1))↔s=r\/s∈fT F n cX (L.take k):=λs=>by
  rw[tK J,H7 K];simp only[cJ,eh];exact or_comm
 have l:∀x∈T,II w' w0.heap.size F n x:=λx A=>⟨(h.Bn x A).1,(h.Bn x A).2.1,h.sh.uj m (h.Bn x A).2.2 (by decide)⟩
 have y:∀g,v'.ownBlock=some g->w0.heap.size<=g:=λg B=>by
  rcases m.new with e|⟨M,e,N⟩
  .rw[e] at B;exact h.own g B
  .rw[e] at B;have:M=g:=iP B;have:=h.lL.size;omega
 cases hh:Sn.dw T r with
 |true =>
  rw[hh,cg rfl] at m;rw[cg rfl];refine⟨u,h.sS,h.sh.new m h.sh.tab.mg h.sh.tab.len,y,λs=>?_,l,h.sh.uj m h.names (by decide),by omega⟩;rw[b,h.keys];constructor
  .exact Or.inr
  .rintro(rfl|hs)
   .exact(h.keys s).1 (Sn.iQ.1 hh)
   .exact hs
 |false =>
  rw[hh,cd (by decide)] at m;rw[cd (by decide)];refine⟨u,h.sS,h.sh.new m (Sn.iq h.sh.tab.mg hh) (by rw[Sn.iS];omega),y,λs=>?_,λx A=>?_,h.sh.uj m h.names (by decide),by rw[Sn.iS];omega⟩
  .rw[b,<-h.keys];constructor
   .rintro⟨e,H⟩;rcases Sn.kT.1 H with e1|e1
    .exact Or.inl (congrArg Prod.fst e1)
    .exact Or.inr ⟨e,e1⟩
   .rintro(rfl|⟨e,H⟩)
    .exact⟨_,Sn.kT.2 (Or.inl rfl)⟩
    .exact⟨e,Sn.kT.2 (Or.inr H)⟩
  .rcases Sn.kT.1 A with e1|e1
   .subst e1;exact⟨rfl,G,h.sh.uj m z (by decide)⟩
   .exact l x e1
theorem Ct.sorted(h:Ct w0 S D cX n cU F vL L wr L.length v T)(b:L.Nodup): T.map (·.1)=oo (fT F n cX L):=by
 refine DG ?_ (xI (A:=fT F n cX L) (kV b)) λs=>?_
 .unfold mg;rw[List.pairwise_map];exact h.sh.tab.mg.imp λj=>by simpa [Sn.lt] using j
 .have l:s∈oo (fT F n cX L)↔s∈fT F n cX L:=sG (kV b) s;have:=h.keys s;rw[wI] at this;rw[l,<-this,xD];constructor
  .rintro⟨x,m,rfl⟩;exact⟨x.2,m⟩
  .rintro⟨e,r⟩;exact⟨(s,e),r,rfl⟩
theorem GJ{R:Rk}{b:Nat}(h:Sm R n b)(e:R.Ok): R.fH.length<=n:=by
 unfold Rk.fH;split
 .exact cy _
 .rw[rY]
  show (Rd.tab (R.dir R.dS.length)).length<=n
  rw[Rd.ur (e.ez _)];have j:=Rd.uw R R.dS.length;have l:=h.dir;omega
theorem xT(R:Rk):R.fH.Nodup:=by
 unfold Rk.fH;split
 .exact List.Pairwise.nil
 .unfold List.Nodup;rw[List.pairwise_map];exact(Rd.dY R.now).imp λb=>Sd.qL b
def Cb(Q:Rk)(D cX n cU:Nat)(w:TJ)(e:Ending)(w':TJ):Prop:=TI w w'/\(Q.nh≠0->e=.returned (.tuple #[.pointer none,Z Y Q.nh]))/\
 (Q.nh=0->∃S v T,e=.returned (.tuple #[.pointer (some ⟨S,0,none⟩),Z Y 0])/\w.heap.size<=S/\gF w' S D cX n cU v T/\(∀g,v.ownBlock=some g->w.heap.size<=g)/\T.map (·.1)=oo (fT Q.rd n cX Q.fH)/\(∀x∈T,II w' w.heap.size Q.rd n x)/\T.length<=Q.fH.length)
theorem yD(D E nn b cX n cU:Nat)(Q R:Rk)(O:Nat->Prop)(w:TJ)(h:jo w D E Q R O)(hs:Sm Q nn b)(af:nn<=1000000000)(m:b<=2097152)(hn:n<=64)(hj:cX<4294967296)(ag:gh w):TL prog 30 #[.pointer (some ⟨D,0,none⟩),.agg #[Z .u32 cX,Z Y n],Z Y cU] w (Cb Q D cX n cU w):=by
 generalize hO:Cb Q D cX n cU w=O';replace hO:=cP hO;have au:Hid (∀(W:TJ) (S:Nat) (v:TK) (T:Sn.Tb) (a:TM),TI w W->gF W S D cX n cU v T->TL prog 45 #[.pointer (some ⟨S,0,none⟩),.string a] W (BS Q n cX a W)):=λW S v T a A hS =>
  Iy S D E nn b cX n Q R O a W (h.below A) hs af m hn hj (ag.below A) hS.c0 hS.c1 hS.c2
 have av:=GJ hs h.NR.1;have H:Hid (∀W,TI w W->TL prog 44 #[.pointer (some ⟨D,0,none⟩)] W λe w'=>∃v,e=.returned (.tuple #[v,Z Y Q.nh])/\w'.ownsRow W.heap.size 9 1 v Q.fH.length (Rd.strs Q.fH)/\TI W w'):=λW A=>Pk.Js (h.below A) hs af
 have ah:=cP (xT Q);obtain⟨L,HL⟩:∃L,Hid (Q.fH=L):=⟨_,rfl⟩
 obtain⟨er,I⟩:∃er,Hid (Q.nh=er):=⟨_,rfl⟩
 rw[cO HL] at H av ah;rw[cO I] at H;have ai:Hid (∀W,W=w.alloc (.cells #[Z .u32 (cX:Int),Z Y (n:Int)] 91)->W.heap[w.heap.size]?=some (.cells #[Z .u32 (cX:Int),Z Y (n:Int)] 91 (0,0))/\TI w W):=by
  show ∀W,_
  rintro W rfl;exact⟨ct w _,(cj _ w).alloc TG _⟩
 clear h hs ag;go_enter func30,ntmps30;go_wp2_with fail;generalize A:World.alloc _ _=W0;obtain⟨U,B⟩:=cO ai W0 A.symm;clear A ai;refine(cO H W0 B).mono ?_;rintro e u ⟨vL,rfl,j,V⟩;have y:=B.trans (V.mono B.size);have E1:=(V.block _ (cS U)).trans U;have r:=cP (Rd.mE j B.size);clear V B U j H;by_cases t:er=0
 .subst t;have x0:u.cell? ⟨w.heap.size,0,none⟩=some (Z .u32 (cX:Int)):=by rw[cn u _ 0 _ _ _ E1];rfl
  have x1:u.cell? ⟨w.heap.size,1,none⟩=some (Z Y (n:Int)):=by rw[cn u _ 1 _ _ _ E1];rfl
  obtain⟨pl,cl,rfl⟩:=lW (cO r);have p:Hid (∀W,W=u.alloc (.cells (Kn D cX n cU (.slice none 0 0)) 113)->Ct w u.heap.size D cX n cU Q.rd (.slice pl L.length cl) L W 0 (.slice none 0 0) []):=by
   show ∀W,_
   rintro W rfl;have hA:TI u (u.alloc (.cells (Kn D cX n cU (.slice none 0 0)) 113)):=(cj _ u).alloc TG _;refine⟨y.trans (hA.mono y.size),y.size,⟨⟨ct u _,rfl,fc _ _ _ _,List.Pairwise.nil,cy _⟩,λe=>(by cases e)⟩,λg e=>(by cases e),λs=>?_,λx hx=>(by cases hx),cW (cO r) hA,b7 _⟩;rw[List.take_zero];exact⟨λ⟨e,he⟩=>(by cases he),λh=>(by cases h)⟩
  unfold Kn at p;clear E1 y r;go_wp2_with fail;generalize A:World.alloc _ _=W2;have z:=cP (cO p W2 A.symm);obtain⟨S,hS⟩:∃S,u.heap.size=S:=⟨_,rfl⟩
  rw[hS] at z ⊢;clear A hS p x0 x1
  go_loopw [30] (λi wr=>∃k:Nat,∃v:TK,∃T:Sn.Tb,k<=L.length/\i=Z Y k/\Hid (Ct w S D cX n cU Q.rd (.slice pl L.length cl) L wr k v T)) (λi _=>L.length-(intOf i).toNat)
  case atStart=>exact⟨0,.slice none 0 0,[],cy _,rfl,z⟩
  case round =>
   clear z;obtain⟨k,v,T,hk,rfl,z⟩:=hrel;by_cases aa:k<L.length
   .have aj:(k:Int)<(L.length:Int):=by omega
    obtain⟨aC,aD,aw,ak⟩:=dd (cO z).names;injection aw with ax _ ay;subst ax ay;obtain⟨g,rfl,_,_,c0⟩:=ak k (by omega);obtain⟨a,HA⟩:∃a,Hid (L[k]=a):=⟨L[k],cP rfl⟩
    replace c0:wr.cell? ⟨g,k,none⟩=some (.string a):=by
     rw[c0,<-cO HA];unfold Rd.strs;rw[K1,cH aa];rfl
    have J:=cP (cO au wr S v T a (cO z).lL (cO z).sh);clear ak;by_cases hf:∃l,Fm Q.rd n cX a l
    .obtain⟨l,hf⟩:=hf;have HF:=cP hf;clear hf;go_wp2_with fail;refine(cO J).mono ?_;rintro e K ⟨m,hy,_⟩;obtain⟨sl,rfl,j⟩:=hy l (cO HF);obtain⟨q,cq,rfl⟩:=lW j;obtain⟨M,an⟩:∃M,Hid (M=(fR Q.rd n l).all):=⟨_,rfl⟩
     rw[<-cO an];have C:=Rd.mE j (cO z).lL.size;have G:=cP ((cO z).below m);clear hy m j J c0 z;go_upto_region 10 with fail;generalize ab:World.alloc _ _=w3;have hA:TI K w3:=by rw[<-ab];exact(cj _ K).alloc TG _
     have hX:w3.heap[K.heap.size]?=some (.cells #[Z Y (l:Int),.slice q n cq,Z Y M] 80 (0,0)):=by rw[<-ab];exact ct K _
     obtain⟨X,ao⟩:∃X,K.heap.size=X:=⟨_,rfl⟩
     have N:=cP ((cO G).below hA);have aq:=cP (cW C hA);rw[ao] at hX ⊢;clear ab hA ao G C;have x0:w3.cell? ⟨X,0,none⟩=some (Z Y (l:Int)):=by rw[cn w3 _ 0 _ _ _ hX];rfl
     have x1:w3.cell? ⟨X,1,none⟩=some (.slice q n cq):=by rw[cn w3 _ 1 _ _ _ hX];rfl
     have x2:w3.cell? ⟨X,2,none⟩=some (Z Y M):=by rw[cn w3 _ 2 _ _ _ hX];rfl
     have az:Hid (∀W,W=w3.drew->TL prog 46 #[.pointer (some ⟨S,4,none⟩),Z Y (l:Int),.agg #[Z Y (l:Int),.slice q n cq,Z Y M]] W λe w'=>(∃bb,e=.returned (.bool bb))/\(w'.cell? ⟨X,0,none⟩=some (Z Y (l:Int))/\w'.cell? ⟨X,1,none⟩=some (.slice q n cq)/\w'.cell? ⟨X,2,none⟩=some (Z Y M))/\∃v' T',Hid (Ct w S D cX n cU Q.rd (.slice (some ⟨g,0,none⟩) L.length cl) L w' (k+1) v' T')):=by
      show ∀W,_
      intro W A;have ad:TI w3 W:=by rw[A];exact TH.drew
      have hI:=(cO N).below ad;have P:=(ad.block _ (cS hX)).trans hX;refine(Rt.n5 S 4 (Kn D cX n cU v) 113 v T l ⟨q,n,cq,M⟩ W hI.sh.tab hI.sh.ne).mono ?_;rintro e w' ⟨he,v',hn⟩;have ae:w'.heap[X]?=some (.cells #[Z Y (l:Int),.slice q n cq,Z Y M] 80 (0,0)):=by
       rw[hn.kept.block X (cS P) ⟨cY P hI.sh.tab.blk (by decide),λhv=>?_⟩]
       .exact P
       .obtain⟨aE,hc,_⟩:=cZ hI.sh.tab.row hv;exact cY P hc (by decide) rfl
      refine⟨⟨_,he⟩,⟨by rw[cn w' _ 0 _ _ _ ae];rfl,by rw[cn w' _ 1 _ _ _ ae];rfl,by rw[cn w' _ 2 _ _ _ ae];rfl⟩,v',_,hI.add aa (by omega) (by rw[cO HA];exact cO HF) (cO an) (cW (cO aq) ad) hn⟩
     clear hX N aq
     go_region_held3 (λw'=>w'.cell? ⟨X,0,none⟩=some (Z Y (l:Int))/\w'.cell? ⟨X,1,none⟩=some (.slice q n cq)/\w'.cell? ⟨X,2,none⟩=some (Z Y M))
      (first|(exact⟨by assumption,by assumption,by assumption⟩)|(go_keep;done))
      (first|(go_at_call 46;refine((cO az) _ rfl).mono ?_;rintro e w5 ⟨⟨bb,rfl⟩,⟨y0,y1,y2⟩,v',T',aA⟩))
     all_goals
      go_wp2;go_roundw
      case rel=>exact⟨k+1,v',T',by omega,by go_num,aA⟩
      case measure=>simp[intOf];omega
    .go_wp2_with fail;refine(cO J).mono ?_;rintro e K ⟨m,_,ar⟩;obtain⟨s,aF,rfl⟩:=ar (λl h=>hf ⟨l,h⟩);have G:=cP (((cO z).below m).no aa (λl h=>hf ⟨l,by rw[<-cO HA];exact h⟩));clear ar m J c0 z;have N:Hid (∀o,Ct w S D cX n cU Q.rd (.slice (some ⟨g,0,none⟩) L.length cl) L (K.alloc o) (k+1) v T):=λo=>(cO G).below ((cj _ K).alloc TG _)
     clear G;go_wp2;go_roundw
     case rel=>exact⟨k+1,v,T,by omega,by go_num,cO N _⟩
     case measure=>simp[intOf];omega
   .have aj:¬(k:Int)<(L.length:Int):=by omega
    have HF:Hid (O' (.returned (.tuple #[.pointer (some ⟨S,0,none⟩),Z Y 0])) wr):=by
     show O' _ _
     rw[<-cO hO];have aB:k=L.length:=by omega
     subst aB;have hi:=cO z;refine⟨hi.lL,λh=>absurd (cO I) h,λ_=>⟨S,v,T,rfl,hi.sS,hi.sh,hi.own,?_,hi.Bn,?_⟩⟩
     .rw[cO HL];exact hi.sorted (cO ah)
     .rw[cO HL];exact hi.len
    go_wp2;exact cO HF
 .have aG:(er != 0)=true:=by rw[E8];exact t
  have HF:Hid (O' (.returned (.tuple #[.pointer none,Z Y er])) u):=by
   show O' _ _
   rw[<-cO hO];exact⟨y,λ_=>by rw[cO I],λh=>absurd h (by rw[cO I];exact t)⟩
  clear y r;go_wp2;exact cO HF
end Ru
namespace Ru
open Go.RowKit
open Rd (Rk)
open Pk (jo Sm cZ cS cY)
open Dk (Kept)
def gD(e:Int):List PanicEntry:=[{ v := .iface 120 (.agg #[Z Y e]),recovered:=false }]
theorem iY(w:TJ):TL prog 89 #[Z Y 0] w λb e=>b=.returned (.tuple #[])/\e=w:=by
 go_enter func89,ntmps89;go_wp2;exact cw (cu rfl _ _ _) rfl ⟨rfl,rfl⟩
theorem jD(e:Int)(he:e≠0)(w:TJ):TL prog 89 #[Z Y e] w λb j=>b=.panicked (gD e)/\j=w:=by
 have l:(e != 0)=true:=by rw[E8];exact he
 go_enter func89,ntmps89;go_wp2;exact⟨rfl,rfl,rfl⟩
theorem Ez{W:TJ}{B:Nat}{a b c x y z:TK}{t:TypeId}(h:W.heap[B]?=some (.cells #[a,b,c] t (0,0)))(o:Obj):((((W.setCell ⟨B,0,none⟩ x).setCell ⟨B,1,none⟩ y).setCell ⟨B,2,none⟩ z).alloc o).heap[B]?=some (.cells #[x,y,z] t (0,0)):=by
 have j:=cA W B 0 _ _ x h;have l:=cA _ B 1 _ _ y j;have e:=cA _ B 2 _ _ z l;rw[cN _ _ _ (cS e),e]
 rfl
theorem Ap(S D cX n cU:Nat)(v:TK)(T:Sn.Tb)(k:Nat)(x:Sn.Ce)(w:TJ)(h:gF w S D cX n cU v (T++[(k,x)])):TL prog 50 #[.pointer (some ⟨S,0,none⟩)] w λe L=>e=.returned (.tuple #[Rt.kQ k x,.bool true])/\TI w L:=by
 have F:Hid (∀W,W=w.alloc (.cells #[Z Y 0,.slice none 0 0,Z Y 0] 80)->W.heap[w.heap.size]?=some (.cells #[Z Y 0,.slice none 0 0,Z Y 0] 80 (0,0))/\TI w W):=by
  show ∀W,_
  rintro W rfl;exact⟨ct w _,(cj _ w).alloc TG _⟩
 have H:=cP h;clear h;go_enter func50,ntmps50;go_wp2_with fail;generalize I:World.alloc _ _=J;obtain⟨m,j⟩:=cO F J I.symm;clear I F;refine(Rt.FU S 4 _ _ v T k x J ((cO H).tab.below j)).mono ?_;rintro e b ⟨rfl,r⟩;have l:=(r.block _ (cS m)).trans m;have u:=j.trans (r.mono j.size);have M:=cS l;obtain⟨q,A,B,C⟩:=x;unfold Rt.kQ;dsimp only;have N:Hid (∀o (x y z:TK),TI w ((((b.setCell ⟨w.heap.size,0,none⟩ x).setCell ⟨w.heap.size,1,none⟩ y).setCell ⟨w.heap.size,2,none⟩ z).alloc o)):=λo x y z =>
  (((u.setCell (p:=⟨w.heap.size,0,none⟩) TG _).setCell (p:=⟨w.heap.size,1,none⟩) TG _).setCell (p:=⟨w.heap.size,2,none⟩) TG _).alloc (by simpa using u.size) _
 have O:Hid (∀o (x y z:TK),((((b.setCell ⟨w.heap.size,0,none⟩ x).setCell ⟨w.heap.size,1,none⟩ y).setCell ⟨w.heap.size,2,none⟩ z).alloc o).heap[w.heap.size]?=some (.cells #[x,y,z] 80 (0,0))):=λo x y z=>Ez l o
 have U:b.cell? ⟨w.heap.size,0,none⟩=some (Z Y 0):=by rw[cn b _ 0 _ _ _ l];rfl
 have V:b.cell? ⟨w.heap.size,1,none⟩=some (.slice none 0 0):=by rw[cn b _ 1 _ _ _ l];rfl
 have X:b.cell? ⟨w.heap.size,2,none⟩=some (Z Y 0):=by rw[cn b _ 2 _ _ _ l];rfl
 have t:b.frozen? ⟨w.heap.size,0,none⟩=false:=by simp[World.frozen?,l]
 have s:b.frozen? ⟨w.heap.size,1,none⟩=false:=by simp[World.frozen?,l]
 have g:b.frozen? ⟨w.heap.size,2,none⟩=false:=by simp[World.frozen?,l]
 clear r j m u l;go_wp2;have G:=cO O (.cells #[Z Y (k:Int),.slice q A B,Z Y C] 80) (Z Y (k:Int)) (.slice q A B) (Z Y C);have K:=cP (cO N (.cells #[Z Y (k:Int),.slice q A B,Z Y C] 80) (Z Y (k:Int)) (.slice q A B) (Z Y C));generalize World.alloc _ _=E at G K ⊢;have P:E.cell? ⟨w.heap.size,0,none⟩=some (Z Y (k:Int)):=by rw[cn E _ 0 _ _ _ G];rfl
 have Q:E.cell? ⟨w.heap.size,1,none⟩=some (.slice q A B):=by rw[cn E _ 1 _ _ _ G];rfl
 have R:E.cell? ⟨w.heap.size,2,none⟩=some (Z Y C):=by rw[cn E _ 2 _ _ _ G];rfl
 exact cr (v := .tuple #[.agg #[Z Y (k:Int),.slice q A B,Z Y C],.bool true]) (by simp[results,results50,go_sem,P,Q,R]) rfl ⟨rfl,cO K⟩
theorem zI(S D cX n cU:Nat)(v:TK)(w:TJ)(h:gF w S D cX n cU v []):TL prog 50 #[.pointer (some ⟨S,0,none⟩)] w λe I=>e=.returned (.tuple #[.agg #[Z Y 0,.slice none 0 0,Z Y 0],.bool false])/\TI w I:=by
 have B:Hid (∀W,W=w.alloc (.cells #[Z Y 0,.slice none 0 0,Z Y 0] 80)->W.heap[w.heap.size]?=some (.cells #[Z Y 0,.slice none 0 0,Z Y 0] 80 (0,0))/\TI w W):=by
  show ∀W,_
  rintro W rfl;exact⟨ct w _,(cj _ w).alloc TG _⟩
 have H:=cP h;clear h;go_enter func50,ntmps50;go_wp2_with fail;generalize E:World.alloc _ _=F;obtain⟨m,j⟩:=cO B F E.symm;clear E B;refine(Rt.F1 S 4 _ _ v F ((cO H).tab.below j)).mono ?_;rintro e b ⟨rfl,r⟩;have l:=(r.block _ (cS m)).trans m;have u:=j.trans (r.mono j.size);have J:=cS l;unfold Rt.vR;have K:Hid (∀o (x y z:TK),TI w ((((b.setCell ⟨w.heap.size,0,none⟩ x).setCell ⟨w.heap.size,1,none⟩ y).setCell ⟨w.heap.size,2,none⟩ z).alloc o)):=λo x y z =>
  (((u.setCell (p:=⟨w.heap.size,0,none⟩) TG _).setCell (p:=⟨w.heap.size,1,none⟩) TG _).setCell (p:=⟨w.heap.size,2,none⟩) TG _).alloc (by simpa using u.size) _
 have L:Hid (∀o (x y z:TK),((((b.setCell ⟨w.heap.size,0,none⟩ x).setCell ⟨w.heap.size,1,none⟩ y).setCell ⟨w.heap.size,2,none⟩ z).alloc o).heap[w.heap.size]?=some (.cells #[x,y,z] 80 (0,0))):=λo x y z=>Ez l o
 have P:b.cell? ⟨w.heap.size,0,none⟩=some (Z Y 0):=by rw[cn b _ 0 _ _ _ l];rfl
 have Q:b.cell? ⟨w.heap.size,1,none⟩=some (.slice none 0 0):=by rw[cn b _ 1 _ _ _ l];rfl
 have R:b.cell? ⟨w.heap.size,2,none⟩=some (Z Y 0):=by rw[cn b _ 2 _ _ _ l];rfl
 have T:b.frozen? ⟨w.heap.size,0,none⟩=false:=by simp[World.frozen?,l]
 have U:b.frozen? ⟨w.heap.size,1,none⟩=false:=by simp[World.frozen?,l]
 have V:b.frozen? ⟨w.heap.size,2,none⟩=false:=by simp[World.frozen?,l]
 clear r j m u l;go_wp2;have C:=cO L (.cells #[Z Y 0,.slice none 0 0,Z Y 0] 80) (Z Y 0) (.slice none 0 0) (Z Y 0);have G:=cP (cO K (.cells #[Z Y 0,.slice none 0 0,Z Y 0] 80) (Z Y 0) (.slice none 0 0) (Z Y 0));generalize World.alloc _ _=A at C G ⊢;have M:A.cell? ⟨w.heap.size,0,none⟩=some (Z Y 0):=by rw[cn A _ 0 _ _ _ C];rfl
 have N:A.cell? ⟨w.heap.size,1,none⟩=some (.slice none 0 0):=by rw[cn A _ 1 _ _ _ C];rfl
 have O:A.cell? ⟨w.heap.size,2,none⟩=some (Z Y 0):=by rw[cn A _ 2 _ _ _ C];rfl
 exact cr (v := .tuple #[.agg #[Z Y 0,.slice none 0 0,Z Y 0],.bool false]) (by simp[results,results50,go_sem,M,N,O]) rfl ⟨rfl,cO G⟩
theorem FL{T:Sn.Tb}{k:Nat}{x:Sn.Ce}(h:Sn.da ((k,x)::T)):Sn.gM ((k,x)::T) k=T:=by
 have e:Sn.dw ((k,x)::T) k=true:=Sn.iQ.2 ⟨x,mz⟩;have l:Sn.dm ((k,x)::T) k=0:=Sn.jN (cy _) (λj b hi=>by omega) (λj b hi=>by
  cases j with
  |zero=>simp[Sn.lt]
  |succ j=>have:=Sn.et h (i:=0) (j:=j+1) (by omega) b;simp[Sn.lt] at this ⊢;omega)
 unfold Sn.gM;rw[cg e,l]
 rfl
theorem vE(S D cX n cU:Nat)(v:TK)(T:Sn.Tb)(k:Nat)(x:Sn.Ce)(w:TJ)(h:gF w S D cX n cU v ((k,x)::T)):TL prog 88 #[.pointer (some ⟨S,0,none⟩)] w λe B=>e=.returned (Z Y (k:Int))/\∃u,gF B S D cX n cU u T/\Kept w B (λj=>¬qj S v j)/\(∀g,u.ownBlock=some g->v.ownBlock=some g\/w.heap.size<=g):=by
 have H:=cP h;clear h;go_enter func88,ntmps88;go_wp2_with fail;refine(Rt.FP S 4 _ _ v T k x w (cO H).tab).mono ?_;rintro e C ⟨rfl,l⟩;have K:=cP ((cO H).below l);have y:=cP l;obtain⟨q,O,P,Q⟩:=x;unfold Rt.kQ;dsimp only;clear l;go_wp2_with fail;generalize E:World.alloc _ _=F;have b:TI C F:=by rw[<-E];exact TH.alloc TG _
 have m:=(cO K).below b;refine(Rt.kd S 4 _ _ v _ k F m.tab m.ne).mono ?_;rintro e w3 ⟨rfl,u,z⟩;rw[FL m.tab.mg] at z;have G:=m.tab.len;rw[cD] at G;have A:=m.new z (sQ.1 m.tab.mg).2 (by omega);have I:Kept w w3 (λj=>¬qj S v j):=(Kept.below (cO y) _).trans ((Kept.below b _).trans (z.kept.mono λj _ J=>⟨λe=>J (Or.inl e),λe=>J (Or.inr e)⟩));have r:∀g,u.ownBlock=some g->v.ownBlock=some g\/w.heap.size<=g:=λg r=>by
  rcases z.new with e|⟨L,e,M⟩
  .rw[e] at r;exact Or.inl r
  .rw[e] at r;have:L=g:=iP r;have:=(cO y).size;have:=b.size;omega
 have N:=cP (And.intro A (And.intro I r));clear E b m z G A I r;go_wp2;go_ret;exact⟨rfl,u,cO N⟩
end Ru
namespace Ru
open Go.RowKit
open Sp (dj)
open Rd (Rk e0)
open Pk (jo Sm fy TP cZ cS cY)
open Dk (Kept)
def OO(O:Nat->Prop)(S:Nat)(v:TK)(k:Nat):Prop:=O k\/qj S v k
structure ow (w:TJ) (D E S cX n cU:Nat) (Q R:Rk) (O:Nat->Prop) (v:TK) (T:Sn.Tb):Prop where
 two:jo w D E Q R O
 sh:gF w S D cX n cU v T
 apart:∀k,O k->¬qj S v k
 pw:gh w
 np:¬OO O S v 6
variable {n cX S cU D:Nat}{w:TJ}{v:TK}{T:Sn.Tb}
theorem gF.jT(h:gF w S D cX n cU v T){k:Nat}(j:qj S v k): k<w.heap.size:=by
 rcases j with rfl|e
 .exact h.lt
 .obtain⟨_,m,_⟩:=cZ h.tab.row e;exact cS m
variable {R Q:Rk}{E:Nat}{O:Nat->Prop}
theorem ow.lt(h:ow w D E S cX n cU Q R O v T){k:Nat}(j:OO O S v k): k<w.heap.size:=by
 rcases j with e|e
 .exact h.two.lt e
 .exact h.sh.jT e
theorem ow.below{w':TJ}(h:ow w D E S cX n cU Q R O v T)(hb:TI w w'): ow w' D E S cX n cU Q R O v T:=⟨h.two.below hb,h.sh.below hb,h.apart,h.pw.below hb,h.np⟩
theorem ow.op{w':TJ}{z:Rk}{m:Nat->Prop}(h:ow w D E S cX n cU Q R O v T)(h2:jo w' D E z R m)(u:fy w O w' m): ow w' D E S cX n cU z R m v T/\fy w (OO O S v) w' (OO m S v):=by
 have r:fy w (OO O S v) w' (OO m S v):=⟨u.kept.mono λk _ j y=>j (Or.inl y),λk j=>by
  rcases j with e|e
  .rcases u.own k e with e|e
   .exact Or.inl (Or.inl e)
   .exact Or.inr e
  .exact Or.inl (Or.inr e)⟩
 obtain⟨B,_,C⟩:=r.far h.pw.lt h.np;refine⟨⟨h2,h.sh.kept u.kept (λk j y=>h.apart k y j),λk j A=>?_,h.pw.keep B,C⟩,r⟩;rcases u.own k j with e|e
 .exact h.apart k e A
 .have:=h.sh.jT A;omega
def mK(w:TJ)(D E S cX n cU:Nat)(R:Rk)(O:Nat->Prop)(v:TK)(G:Sn.Tb->Prop)(r:Int × Rk)(e:Ending)(w':TJ):Prop:=(r.1=0->e=.returned (.tuple #[]))/\(r.1≠0->e=.panicked (gD r.1))/\∃j m u,(r.1=0->G u)/\ow w' D E S cX n cU r.2 R j m u/\fy w (OO O S v) w' (OO j S m)
variable {l:List Oq}{o:Oq}
theorem qm(h:(dz R o).1≠0): eg R (o::l)=dz R o:=by rw[eg,cd h]
theorem oR(h:(dz R o).1=0): eg R (o::l)=eg (dz R o).2 l:=by rw[eg,cg h]
theorem pt: eg R [o]=dz R o:=by
 rw[eg];split
 .rename_i h;rw[eg,<-h]
 .rfl
variable {b:Nat}
theorem gz.head(h:gz R l n b): Sm R n b:=h 0 (cy _)
theorem gz.tail(h:gz R (o::l) n b)(e:(dz R o).1=0): gz (dz R o).2 l n b:=λi hi=>by
 have:=h (i+1) (by simpa using hi);rw[Gk,oR e] at this;exact this
theorem gz.fst{m:List Oq}(h:gz R (l++m) n b): gz R l n b:=λi hi=>by
 have:=h i (by rw[lN];omega);rw[zs hi] at this;exact this
theorem gz.snd{m:List Oq}(h:gz R (l++m) n b)(e:(eg R l).1=0): gz (eg R l).2 m n b:=λi hi=>by
 have:=h (l.length+i) (by rw[lN];omega);rw[List.take_length_add_append,iE,cg e] at this;exact this
theorem sY(D E S cX n cU nn b:Nat)(Q R:Rk)(O:Nat->Prop)(v:TK)(T:Sn.Tb)(a p:TM)(w:TJ)(h:ow w D E S cX n cU Q R O v T)(hp:gz Q (eQ a p) nn b)(B:nn<=1000000000)(hb:b<=2097152)(ha:a.size<=1048576)(ht:(dj p).size<=1048576):TL prog 94 #[.pointer (some ⟨S,0,none⟩),.string a,.string (dj p)] w (mK w D E S cX n cU R O v (λT'=>T'=T) (eg Q (eQ a p))):=by
 generalize L:mK w D E S cX n cU R O v (λT'=>T'=T) (eg Q (eQ a p))=P;replace L:=cP L;have c0:=h.sh.c0;have H1:=cP (Pk.IM a h.two hp.head B ha);have H:=cP h;have HP:=cP hp;obtain⟨t,M⟩:∃t,Hid (dj p=t):=⟨_,rfl⟩
 rw[cO M] at ht ⊢;clear h hp;go_enter func94,ntmps94;go_wp2_with fail;refine(cO H1).mono ?_;rintro e w1 ⟨rfl,O1,t1,s1⟩;obtain⟨I,r⟩:=(cO H).op t1 s1;obtain⟨e1,j⟩:∃e,Hid ((Q.create a).1=e):=⟨_,rfl⟩
 rw[cO j];by_cases s:e1=0
 .subst s;have C:=(cO HP).tail (cO j);have c1:=I.sh.c0;have H2:=cP (Pk.G8 a t I.two C.head B hb ht);have aa:=cP I;have N:=cP r;have ab:=cP C;clear H1 t1 s1 I r C c0;go_wp2_with fail;refine(iY w1).mono ?_;rintro e af ⟨rfl,rfl⟩;go_wp2_with fail;refine(cO H2).mono ?_;rintro e w2 ⟨rfl,O2,t2,s2⟩;obtain⟨J,u⟩:=(cO aa).op t2 s2;obtain⟨g,y⟩:∃e,Hid (((Q.create a).2.append a t).1=e):=⟨_,rfl⟩
  have m:Hid ((dz (dz Q ⟨1,a,e0⟩).2 ⟨2,a,dj p⟩).1=g):=by show _=_;rw[cO M];exact cO y
  rw[cO y];by_cases h2:g=0
  .subst h2;have F:=(cO ab).tail (cO m);have U:(dz (dz Q ⟨1,a,e0⟩).2 ⟨2,a,dj p⟩).2=((Q.create a).2.append a t).2:=by rw[cO M];rfl
   rw[U] at F;have c2:=J.sh.c0;have H3:=cP (Pk.Oj a J.two F.head B);have ad:=cP J;have ae:=cP ((cO N).trans u);clear H2 t2 s2 J u F c1 U;go_wp2_with fail;refine(iY w2).mono ?_;rintro e ag ⟨rfl,rfl⟩;go_wp2_with fail;refine(cO H3).mono ?_;rintro e w3 ⟨rfl,O3,t3,s3⟩;obtain⟨q3,V⟩:=(cO ad).op t3 s3;have A:eg Q (eQ a p)=((Q.create a).2.append a t).2.sync a:=by
    unfold eQ;rw[oR (show (dz Q ⟨1,a,e0⟩).1=0 from cO j),oR (cO m),pt,cO M];rfl
   obtain⟨W,z⟩:∃e,Hid ((((Q.create a).2.append a t).2.sync a).1=e):=⟨_,rfl⟩
   have K:Hid (∀X,(W=0->X=.returned (.tuple #[]))->(W≠0->X=.panicked (gD W))->P X w3):=by
    show ∀X,_
    intro X k1 k2;rw[<-cO L,A];exact⟨λh=>k1 ((cO z).symm.trans h),λh=>by rw[cO z];exact k2 (λq=>h ((cO z).trans q)),O3,v,T,λ_=>rfl,q3,(cO ae).trans V⟩
   rw[cO z];clear H3 t3 s3 q3 V c2 A;by_cases h3:W=0
   .subst h3;go_wp2_with fail;refine(iY w3).mono ?_;rintro e G ⟨rfl,rfl⟩;go_wp2;exact cw (cu rfl _ _ _) rfl (cO K _ (λ_=>rfl) (λh=>absurd rfl h))
   .go_wp2_with fail;refine(jD W h3 w3).mono ?_;rintro e G ⟨rfl,rfl⟩;exact⟨rfl,cO K _ (λh=>absurd h h3) (λ_=>rfl)⟩
  .have A:eg Q (eQ a p)=(Q.create a).2.append a t:=by
    unfold eQ;rw[oR (show (dz Q ⟨1,a,e0⟩).1=0 from cO j),qm (by rw[cO m];exact h2),cO M];rfl
   have K:Hid (P (.panicked (gD g)) w2):=by
    show P _ _
    rw[<-cO L,A];exact⟨λh=>absurd ((cO y).symm.trans h) h2,λh=>by rw[cO y],O2,v,T,λ_=>rfl,J,(cO N).trans u⟩
   clear H2 t2 s2 J u c1 A;go_wp2_with fail;refine(jD g h2 w2).mono ?_;rintro e G ⟨rfl,rfl⟩;exact⟨rfl,cO K⟩
 .have A:eg Q (eQ a p)=Q.create a:=by
   unfold eQ;rw[qm (show (dz Q ⟨1,a,e0⟩).1≠0 from λq=>s ((cO j).symm.trans q))];rfl
  have K:Hid (P (.panicked (gD e1)) w1):=by
   show P _ _
   rw[<-cO L,A];exact⟨λh=>absurd ((cO j).symm.trans h) s,λh=>by rw[cO j],O1,v,T,λ_=>rfl,I,r⟩
  clear H1 t1 s1 I r c0 A;go_wp2_with fail;refine(jD e1 s w1).mono ?_;rintro e G ⟨rfl,rfl⟩;exact⟨rfl,cO K⟩
end Ru
end Go.Proofs.YtgkkdpegcieakaaGreatDoor
