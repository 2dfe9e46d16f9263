import Derived.Test.YtgkkdpegcieakaaGreatDoorCv30
set_option linter.all false
set_option maxRecDepth 100000
set_option maxHeartbeats 0
namespace Go.Proofs.YtgkkdpegcieakaaGreatDoor
open Go.Proofs.Tryz
open Value renaming int→Z,slice→J,pointer→V9
open Obj renaming cells→D
open Option renaming none→U,some→S
open Bool renaming false→Wg
open List renaming length→Wn
open _root_.Array renaming size→N
open World renaming alloc→Wl,setCell→Wm,heap→E
open IntKind renaming i64→Y
open Go renaming World→V5,Value→V6,Calls→V7
namespace Ru
open Go.RowKit
open Sp (Pg Ed Cfg nG quiet lK fi gy eY iM)
open Rd (Rk e0)
open Pk (jd Sm fx TP di cX dh)
open Dk (Kept)
structure QD (w:V5) (jc:Array V6) (S every n:Nat) (wX:V5) (FB:Nat) (c0:Cfg) (dp:Nat) (p0:Option Addr) (k0:Nat) (rep:Int):Prop where
 lJ:V4 w wX
 jb:wX.heap[N (E w)]?=some (D jc 75 (0,0))
 sb:wX.heap[N (E w)+1]?=some (D #[V9 (some ⟨S,0,U⟩)] 85 (0,0))
 eb:wX.heap[N (E w)+1+1]?=some (D #[Z Y (every:Int)] 3 (0,0))
 xb:wX.heap[N (E w)+1+1+1]?=some (D #[Z .u8 0,Z Y 0,Z Y 0,J U 0 0] 32 (0,0))
 rb:wX.heap[N (E w)+1+1+1+1]?=some (D #[Z Y rep,Z Y 0] 43 (0,0))
 gb:wX.heap[N (E w)+1+1+1+1+1]?=some (D #[Z Y 0] 33 (0,0))
 fb:wX.heap[FB]?=some (D #[Z Y (dp:Int),J p0 n k0,Z Y c0.all] 80 (0,0))
 fl:N (E w)<=FB
 row:wX.ownsRow 0 104 4 (J p0 n k0) n (jk c0.val c0.fD c0.iH c0.jf n)
variable {every dp n FB:Nat}{w:V5}
theorem QD.from{jc:Array V6}{b:Nat}{wX:V5}{u:Cfg}{p0:Option Addr}{k0:Nat}{rep:Int}(h:QD w jc b every n wX FB u dp p0 k0 rep): QD w jc b every n (wX.setCell ⟨N (E w)+1+1+1+1,0,U⟩ (Z Y (dp:Int))) FB u dp p0 k0 (dp:Int):=by
 have l:∀{j:Nat} {m:Array V6} {t:TypeId},wX.heap[j]?=S (D m t (0,0))->j≠(N (E w))+1+1+1+1->(wX.setCell ⟨N (E w)+1+1+1+1,0,U⟩ (Z Y (dp:Int))).heap[j]?=S (D m t (0,0)):=λ{j m t} y r=>by rw[Tv wX _ _ j r];exact y
 refine⟨h.lJ.setCell (p:=⟨N (E w)+1+1+1+1,0,U⟩) (show (N (E w))<=N (E w)+1+1+1+1 by omega) _,l h.jb (by omega),l h.sb (by omega),l h.eb (by omega),l h.xb (by omega),?_,l h.gb (by omega),l h.fb (dh h.fb h.rb (by decide)),h.fl,?_⟩
 .rw[Tq wX _ 0 _ _ _ h.rb];rfl
 .refine Ui h.row (λe=>?_) _;obtain⟨z,A,_⟩:=di h.row e;exact dh A h.rb (by decide) O
variable {t:TypeId}{dd K:Nat}
theorem uk.yK{b E e cY:Nat}{Q R:Rk}{O:Nat->Prop}{v:V6}{T:Sn.Tb}{l m RB sv:Nat}{y z:V6}(h:uk w b E e dd n cY Q R O v T FB l m RB every dp sv y z){c:Array V6}(j:w.heap[K]?=S (D c t (0,0)))(ht:(t∉iX/\t≠113/\t≠181)/\t≠43/\t≠80/\t≠3/\t≠85)(r:K≠6)(i:Nat)(x:V6): uk (w.setCell ⟨K,i,U⟩ x) b E e dd n cY Q R O v T FB l m RB every dp sv y z:=h.set (je h.sf j ht.1) ⟨dh j h.fb ht.2.2.1,dh j h.eb ht.2.2.2.1,dh j h.sb ht.2.2.2.2,dh j h.rb ht.2.1,r⟩ i x
theorem lR{e:V5}{A B:Nat->Prop}(h:fx e A w B)(r:N (E e)<=K)(i:Nat)(x:V6): fx e A (w.setCell ⟨K,i,U⟩ x) B:=by
 have b:Kept w (w.setCell ⟨K,i,U⟩ x) (λk=>k≠K):=(Kept.refl w _).setCell (λb=>b O) _;refine⟨⟨b.os.trans h.kept.os,b.tape.trans h.kept.tape,b.output.trans h.kept.output,To h.kept.size b.size,λj l m=>?_⟩,h.own⟩;rw[b.block j (by have:=h.kept.size;omega) (by omega)];exact h.kept.block j l m
theorem uk.leave{j:V5}{A:Nat->Prop}{b E e cY:Nat}{Q R:Rk}{O:Nat->Prop}{v:V6}{T:Sn.Tb}{l m RB sv:Nat}{y z:V6}(h:uk w b E e dd n cY Q R O v T FB l m RB every dp sv y z){c:Array V6}(u:w.heap[K]?=S (D c t (0,0)))(ht:(t∉iX/\t≠113/\t≠181)/\t≠43/\t≠80/\t≠3/\t≠85)(B:K≠6)(C:fx j A w (OR O e v RB))(F:j.heap.size<=K)(x:V6)(o:Obj):uk ((w.setCell ⟨K,0,U⟩ x).alloc o) b E e dd n cY Q R O v T FB l m RB every dp sv y z/\fx j A ((w.setCell ⟨K,0,U⟩ x).alloc o) (OR O e v RB):=by
 have r:Below (w.setCell ⟨K,0,U⟩ x).heap.size (w.setCell ⟨K,0,U⟩ x) ((w.setCell ⟨K,0,U⟩ x).alloc o):=V3.alloc V2 _;exact⟨(h.yK u ht B 0 x).below r,(lR C F 0 x).trans (fx.below _ r)⟩
theorem gd{W:V5}{g i:Nat}{C:Array V6}{x:V6}(h:W.heap[g]?=S (D C t (0,0)))(m:C[i]?=S x): W.setCell ⟨g,i,U⟩ x=W:=by
 obtain⟨hi,b⟩:=Ts.1 m;have r:C.setIfInBounds i x=C:=by rw[<-b];simp[Array.setIfInBounds,hi]
 have e:(W.setCell ⟨g,i,U⟩ x).heap=W.heap:=by
  apply Array.ext_getElem?;intro j;by_cases l:j=g
  .subst l;rw[Tq W j i _ _ x h,r,h]
  .exact Tv W _ _ j l
 unfold Wm at e ⊢;cases W;simp only at e ⊢;rw[e]
theorem wk{P:Pg}{Es:List Ed}{cap keep:Nat}: ∀{g s sv:Nat} {c:Cfg} {K:List Nat} {Q:Rk} {b:Out},rz P Es cap every keep dd n dp g s c K sv Q=b->b.e≠0->b.res=fO
 |0,s,sv,c,K,Q,b,h,j=>by rw[rz] at h;rw[<-h]
 |g+1,s,sv,c,K,Q,b,h,j=>by
  by_cases m:gy cap c s=0
  .obtain⟨_,B,r⟩:=E6 h m;have hS:∀{l:Nat} {u:List Nat} {y:Rk},PJ P Es cap every keep dd n dp g s l c u y (lK P Es c s n) b->b.res=fO:=λ{l u y} hh=>by
    unfold PJ at hh;cases z:lK P Es c s n with
    |error i=>rw[z] at hh;rw[hh] at j;exact absurd O j
    |ok a=>rw[z] at hh;exact wk hh j
   by_cases hd:dp<s/\s%every=0
   .by_cases A:(uc Q c n s dd K keep sv).1=0
    .exact hS ((r hd).2 A)
    .rw[(r hd).1 A]
   .exact hS (B hd)
  .exact absurd (Jx h O m).2.2.1 j
def tY(w:V5)(b E e dd n cY FB every dp:Nat)(R:Rk)(p0:Option Addr)(k0:Nat)(j:Int):Rc:=⟨b,E,e,dd,n,cY,FB,w.heap.size+1+1,w.heap.size+1,w.heap.size+1+1+1+1,every,dp,R,J p0 n k0,Z Y j⟩
theorem CE(j E l dd n cY every cZ B:Nat)(pf:Option Addr)(kf:Nat)(pe:Option Addr)(ke:Nat)(P:Pg)(Es:List Ed)(z f:Addr)(vs:List Int)(dp:Nat)(F:Cfg)(nn b:Nat)(Q R:Rk)(O:Nat->Prop)(v:V6)(T:Sn.Tb)(w:V5)(h:ot w j E l dd n cY Q R O v T)(bI:(T=[]/\dp=0/\F=Sp.fX P vs)\/(∃T' x,T=T'++[(dp,x)]/\F=fw Q.rd n dp/\qd w 0 Q.rd n (dp,x)))(aS:∀W O' v' RB,w.heap.size<=RB->fx w (OR O l v RB) W (OR O' l v' RB)->jH W B P/\j6 W z f/\Ht W pe n Es)(hint:fG w Y pf vs)(aX:Wn vs=n)(bg:eY n F)(hj:iM P Es n)(hl:cZ<=200)(aT:dd<4294967296)(bh:0<every)(aU:every<=50)(hT:∀x∈T,x.1<=dp)(bj:dp<=4294967295)(bk:Sm Q nn b)(bn:nn+2000<=1000000000)(ae:1000<=b)(bo:b<=2097152)(hm:cY<=5)(bp:Q.nB=0):V7 prog 32 #[.agg (dY B pf n kf pe ke cZ),V9 (S ⟨l,0,U⟩),Z Y (every:Int)] w (ME j E l dd n cY dp R O v (EP P Es cZ every cY dd n dp F ((T.drop (Wn T-cY)).map (·.1)) Q) w):=by
 generalize hO:ME j E l dd n cY dp R O v (EP P Es cZ every cY dd n dp F ((T.drop (Wn T-cY)).map (·.1)) Q) w=PP;replace hO:=cU hO;have bU:∀(fn:Go.Fn) (first cap:Array V6) (w:V5),(Instr.makeFunc fn first cap).run prog w=.ok (.func fn first cap) w:=λ_ _ _ _=>rfl
 have bq:=hj.FW;have m:=cU h;have aY:=cU aS;have br:=cU hint;have bs:=cU bg;have HJ:=cU hj;have HT:=cU hT;have aP:=cU bk;have bu:=cU bp;have bw:=cU (MU w (dY B pf n kf pe ke cZ) l every);clear h aS hint bg hj hT bk bp;unfold dY at *
 go_enter_defers func32,ntmps32
 go_wp2_with fail;generalize hW:Wl (Wl _ _) _=W0;obtain⟨⟨a1,a2,a3,a4,a5,a6⟩,ag,bx⟩:=cT bw W0 hW.symm;clear hW bw;have RX:∀{wX:V5} {FB:Nat} {p0:Option Addr} {k0:Nat},V4 W0 wX->wX.heap[FB]?=S (D #[Z Y (dp:Int),J p0 n k0,Z Y F.all] 80 (0,0))->w.heap.size<=FB->wX.ownsRow 0 104 4 (J p0 n k0) n (jk F.val F.fD F.iH F.jf n)->QD w #[V9 (S ⟨B,0,U⟩),J pf n kf,J pe n ke,Z Y (cZ:Int)] l every n wX FB F dp p0 k0 0:=λ{wX FB p0 k0} hb hf hl hr =>
  ⟨ag.trans (hb.mono ag.size),(hb.block _ (cX a1)).trans a1,(hb.block _ (cX a2)).trans a2,(hb.block _ (cX a3)).trans a3,(hb.block _ (cX a4)).trans a4,(hb.block _ (cX a5)).trans a5,(hb.block _ (cX a6)).trans a6,hf,hl,hr⟩
 rcases bI with ⟨bA,bB,aZ⟩|⟨T',x,bC,aQ,bJ⟩
 .have bD:(dp:Int)=0:=by rw[bB];rfl
  have aA:=cU (Cb l j dd n cY v W0 (by have:=((cT m).below ag).sh;rw[bA] at this;exact this));refine(cT aA).mono ?_;rintro e w1 ⟨rfl,ae⟩;have bE:∀o,V4 W0 (w1.alloc o):=λo=>ae.trans (((Th _ w1).alloc V2 o).mono ae.size)
  have aG:W0.heap.size<=w1.heap.size:=ae.size;have bK:w.heap.size<w1.heap.size:=by omega
  have b1:=(ae.block _ (cX a1)).trans a1;obtain⟨j0,j1,j2,j3⟩:=fQ (B:=B) (pf:=pf) (n:=n) (kf:=kf) (pe:=pe) (ke:=ke) (cZ:=cZ) b1;have bF:Hid (∀W,V4 W0 W->V7 prog 26 #[.agg #[V9 (S ⟨B,0,U⟩),J pf n kf,J pe n ke,Z Y (cZ:Int)]] W (A3 P vs n W)):=λW hW=>by
   have bG:=ag.trans (hW.mono ag.size);exact Lh B pf n kf pe ke cZ P vs W (cT aY W O v (w.heap.size+1+1+1+1) (by omega) (fx.below _ bG)).1 ((cT br).below bG) aX bq
  clear b1;go_wp2_with fail;generalize ay:Wl _ _=w2;have aF:V4 W0 w2:=by rw[<-ay];exact bE _
  have aR:w2.heap[w1.heap.size]?=S (D #[Z Y 0,J U 0 0,Z Y 0] 80 (0,0)):=by rw[<-ay];exact Tk w1 _
  refine(cT bF w2 aF).mono ?_;rintro e w3 ⟨a7,sl,rfl,M⟩;obtain⟨p0,k0,rfl⟩:=l5 M;have ah:=(a7.block _ (cX aR)).trans aR;have aH:w3.ownsRow 0 104 4 (J p0 n k0) n (jk F.val F.fD F.iH F.jf n):=by
   have:=Dk.qQ M;rw[aZ,<-aX,<-JT];rw[<-aX] at this;exact this
  have aV:Sp.eT P.al=F.all:=by rw[aZ];rfl
  rw[aV];have aW:V4 W0 w3:=aF.trans (a7.mono aF.size);obtain⟨FB,aI⟩:∃q,w1.heap.size=q:=⟨_,rfl⟩
  rw[aI] at ah aG aR ⊢;have g0:w3.cell? ⟨FB,0,U⟩=S (Z Y 0):=by rw[Ti w3 _ 0 _ _ _ ah];rfl
  have g1:w3.cell? ⟨FB,1,U⟩=S (J U 0 0):=by rw[Ti w3 _ 1 _ _ _ ah];rfl
  have g2:w3.cell? ⟨FB,2,U⟩=S (Z Y 0):=by rw[Ti w3 _ 2 _ _ _ ah];rfl
  have i0:w3.frozen? ⟨FB,0,U⟩=Wg:=by simp[World.frozen?,ah]
  have i1:w3.frozen? ⟨FB,1,U⟩=Wg:=by simp[World.frozen?,ah]
  have i2:w3.frozen? ⟨FB,2,U⟩=Wg:=by simp[World.frozen?,ah]
  have HX:Hid (QD w #[V9 (S ⟨B,0,U⟩),J pf n kf,J pe n ke,Z Y (cZ:Int)] l every n (((w3.setCell ⟨FB,0,U⟩ (Z Y 0)).setCell ⟨FB,1,U⟩ (J p0 n k0)).setCell ⟨FB,2,U⟩ (Z Y F.all)) FB F dp p0 k0 0):=by
   refine RX (((aW.setCell (p:=⟨FB,0,U⟩) aG _).setCell (p:=⟨FB,1,U⟩) aG _).setCell (p:=⟨FB,2,U⟩) aG _) ?_ (by have:=ag.size;omega) ?_
   .have h1:=Tq w3 FB 0 _ _ (Z Y 0) ah;have h2:=Tq _ FB 1 _ _ (J p0 n k0) h1;have h3:=Tq _ FB 2 _ _ (Z Y F.all) h2;rw[h3,bD];rfl
   .have af:∀(W:V5) (i:Nat) (x:V6) (cs:Array V6),W.heap[FB]?=S (D cs 80 (0,0))->W.ownsRow 0 104 4 (J p0 n k0) n (jk F.val F.fD F.iH F.jf n)->(W.setCell ⟨FB,i,U⟩ x).ownsRow 0 104 4 (J p0 n k0) n (jk F.val F.fD F.iH F.jf n):=λW i x cs hA hx =>
     Ui hx (λe=>by obtain⟨y,hy,_⟩:=di hx e;exact dh hy hA (by decide) rfl) _
    have h1:=Tq w3 FB 0 _ _ (Z Y 0) ah;have h2:=Tq _ FB 1 _ _ (J p0 n k0) h1;exact af _ 2 _ _ h2 (af _ 1 _ _ h1 (af _ 0 _ _ ah aH))
  clear RX a1 a2 a3 a4 a5 a6 ag bx ae bE ay aA aI aF aR ah M aH aV aW a7 bF j0 j1 j2 j3 bK aG aZ bD bB bA;go_upto_region 5 with fail;clear g0 g1 g2 i0 i1 i2;generalize Wm _ _ _=wX at HX ⊢;have f0:wX.cell? ⟨FB,0,U⟩=S (Z Y (dp:Int)):=by rw[Ti wX _ 0 _ _ _ (cT HX).fb];rfl
  have r0:wX.cell? ⟨w.heap.size+1+1+1+1,0,U⟩=S (Z Y 0):=by rw[Ti wX _ 0 _ _ _ (cT HX).rb];rfl
  have a8:wX.frozen? ⟨w.heap.size+1+1+1+1,0,U⟩=Wg:=by simp[World.frozen?,(cT HX).rb]
  have A:=cU (cT HX).from
  have s5:(wX.setCell ⟨w.heap.size+1+1+1+1,0,U⟩ (Z Y (dp:Int))).cell? ⟨w.heap.size+1,0,U⟩=S (V9 (S ⟨l,0,U⟩)):=by rw[Ti _ _ 0 _ _ _ (cT A).sb];rfl
  clear HX;go_upto_region 6 with fail;clear f0 r0 a8;generalize Wm _ _ _=w5 at A s5 ⊢;have ai:Hid ((tY w j E l dd n cY FB every dp R p0 k0 F.all).I w5 Q O v T 0):=⟨(cT m).below (cT A).lJ,(cT A).fb,(cT A).eb,(cT A).sb,(cT A).rb,by have:=(cT m).pw.lt;show w.heap.size+1+1+1+1≠_;omega⟩
  have aB:=cU (xj j E l dd n cY nn b Q R O v T w5 (cT ai).sf (λx hx=>by have:=(cT HT) x hx;omega) (cT aP) (by omega) (by omega) (cT bu));have aC:Hid (Sm (ep Q (dU Q.fE ((T.drop (Wn T-cY)).map (·.1)))).2 nn b):=(gA.tK (λo ho=>(ru _ _ o ho).1) (cT aP)).all;unfold EP at hO;obtain⟨rc,ba⟩:∃q,Hid (ep Q (dU Q.fE ((T.drop (Wn T-cY)).map (·.1)))=q):=⟨_,rfl⟩
  rw[cT ba] at aB aC hO;go_wp2_with fail;refine(cT aB).mono ?_;rintro e w6 ⟨k1,k2,O6,v6,T6,hG,aJ,ar⟩;obtain⟨aK,az⟩:=(cT ai).next aJ ar
  have aj:=cU aK;have s:Hid (fx w (OR O l v (w.heap.size+1+1+1+1)) w6 (OR O6 l v6 (w.heap.size+1+1+1+1))):=(fx.below _ (cT A).lJ).trans az;have aa:∀{k:Nat} {c:Array V6} {t:TypeId},w5.heap[k]?=S (D c t (0,0))->(t∉iX/\t≠113/\t≠181)->w6.heap[k]?=S (D c t (0,0)):=λ{k c t} hk ht=>(ar.far (cX hk) (je (cT ai).sf hk ht)).1.trans hk
  have aL:=cU (aa (cT A).jb (by decide));have aD:=cU (aa (cT A).xb (by decide));have au:=cU (aa (cT A).gb (by decide));have aM:Hid (w6.ownsRow 0 104 4 (J p0 n k0) n (jk F.val F.fD F.iH F.jf n)):=Dk.dy (cT A).row ar.kept (λg hg hq=>DT (cT ai).sf (cT A).row (by decide) g hg hq);clear aK az aJ ar aa A ai aB s5;by_cases hz:rc.1=0
  .obtain rfl:=k1 hz;have aE:T6=T.drop (Wn T-cY):=hG hz;clear k1 k2 hG;rw[Tf (by rw[hz];simp),<-aE] at hO;obtain⟨r,ab⟩:∃q,Hid (rz P Es cZ every cY dd n dp ((cZ-dp)+1) dp F (T6.map (·.1)) 0 rc.2=q):=⟨_,rfl⟩
   rw[cT ab] at hO;have av:=cU (NC (tY w j E l dd n cY FB every dp R p0 k0 F.all) B pf kf pe ke cZ P Es p0 k0 F z f r nn b rc.2 O6 v6 T6 w6 (cT aj) (λW O' v' hs=>cT aY W O' v' (w.heap.size+1+1+1+1) (by omega) ((cT s).trans hs)) (cT aM) (cT bs) (cT HJ) hl aT bh aU bj (cT aC) bn ae bo hm (λx hx=>(cT HT) x (by rw[aE] at hx;exact UR hx)) (by show (Wn T6)<=cY;rw[aE,Us];omega) (cT ab));obtain⟨j0,j1,j2,j3⟩:=fQ (B:=B) (pf:=pf) (n:=n) (kf:=kf) (pe:=pe) (ke:=ke) (cZ:=cZ) (cT aL);obtain⟨f0,f1,f2,_⟩:=dR (cT aj).fb;unfold gz dY at av;dsimp only[tY] at av f0 f1 f2;go_wp2_with fail;refine(cT av).mono ?_;rintro e L ⟨m1,m2,O7,v7,T7,aN,ad⟩;dsimp only[tY] at ad;have ak:∀{k:Nat} {c:Array V6} {t:TypeId},w6.heap[k]?=S (D c t (0,0))->((t∉iX/\t≠113/\t≠181)/\t≠43)->L.heap[k]?=S (D c t (0,0)):=λ{k c t} hk ht=>(ad.far (cX hk) ((cT aj).not hk ht)).1.trans hk
   have C:=cU (ak (cT aD) (by decide));have aw:=cU (ak (cT au) (by decide));have ax:=cU aN;have an:=cU ((cT s).trans ad);have bc:6<w.heap.size:=(cT m).pw.lt;clear ak aN ad aD au aL aM av aC j0 j1 j2 j3 f0 f1 f2;by_cases ao:r.e=0
   .obtain⟨sl,rfl,M⟩:=m1 ao;obtain⟨q,X,rfl⟩:=l5 M;have aO:=cU (Rd.mj M (cT s).kept.size);have x0:L.cell? ⟨w.heap.size+1+1+1,0,U⟩=S (Z .u8 0):=by rw[Ti L _ 0 _ _ _ (cT C)];rfl
    have x1:L.cell? ⟨w.heap.size+1+1+1,1,U⟩=S (Z Y 0):=by rw[Ti L _ 1 _ _ _ (cT C)];rfl
    have x2:L.cell? ⟨w.heap.size+1+1+1,2,U⟩=S (Z Y 0):=by rw[Ti L _ 2 _ _ _ (cT C)];rfl
    have x3:L.cell? ⟨w.heap.size+1+1+1,3,U⟩=S (J U 0 0):=by rw[Ti L _ 3 _ _ _ (cT C)];rfl
    have y0:L.frozen? ⟨w.heap.size+1+1+1,0,U⟩=Wg:=by simp[World.frozen?,(cT C)]
    have y1:L.frozen? ⟨w.heap.size+1+1+1,1,U⟩=Wg:=by simp[World.frozen?,(cT C)]
    have y2:L.frozen? ⟨w.heap.size+1+1+1,2,U⟩=Wg:=by simp[World.frozen?,(cT C)]
    have y3:L.frozen? ⟨w.heap.size+1+1+1,3,U⟩=Wg:=by simp[World.frozen?,(cT C)]
    have H8:Hid (((((L.setCell ⟨w.heap.size+1+1+1,0,U⟩ (Z .u8 (r.res.outcome:Int))).setCell ⟨w.heap.size+1+1+1,1,U⟩ (Z Y (r.res.step:Int))).setCell ⟨w.heap.size+1+1+1,2,U⟩ (Z Y (r.res.dG:Int))).setCell ⟨w.heap.size+1+1+1,3,U⟩ (J q (Wn r.res.dJ) X)).heap[w.heap.size+1+1+1]?=S (D #[Z .u8 (r.res.outcome:Int),Z Y (r.res.step:Int),Z Y (r.res.dG:Int),J q (Wn r.res.dJ) X] 32 (0,0))/\(tY w j E l dd n cY FB every dp R p0 k0 F.all).I ((((L.setCell ⟨w.heap.size+1+1+1,0,U⟩ (Z .u8 (r.res.outcome:Int))).setCell ⟨w.heap.size+1+1+1,1,U⟩ (Z Y (r.res.step:Int))).setCell ⟨w.heap.size+1+1+1,2,U⟩ (Z Y (r.res.dG:Int))).setCell ⟨w.heap.size+1+1+1,3,U⟩ (J q (Wn r.res.dJ) X)) r.R O7 v7 T7 r.saved/\((((L.setCell ⟨w.heap.size+1+1+1,0,U⟩ (Z .u8 (r.res.outcome:Int))).setCell ⟨w.heap.size+1+1+1,1,U⟩ (Z Y (r.res.step:Int))).setCell ⟨w.heap.size+1+1+1,2,U⟩ (Z Y (r.res.dG:Int))).setCell ⟨w.heap.size+1+1+1,3,U⟩ (J q (Wn r.res.dJ) X)).heap[w.heap.size+1+1+1+1+1]?=S (D #[Z Y 0] 33 (0,0))/\fx w (OR O l v (w.heap.size+1+1+1+1)) ((((L.setCell ⟨w.heap.size+1+1+1,0,U⟩ (Z .u8 (r.res.outcome:Int))).setCell ⟨w.heap.size+1+1+1,1,U⟩ (Z Y (r.res.step:Int))).setCell ⟨w.heap.size+1+1+1,2,U⟩ (Z Y (r.res.dG:Int))).setCell ⟨w.heap.size+1+1+1,3,U⟩ (J q (Wn r.res.dJ) X)) (OR O7 l v7 (w.heap.size+1+1+1+1))/\((((L.setCell ⟨w.heap.size+1+1+1,0,U⟩ (Z .u8 (r.res.outcome:Int))).setCell ⟨w.heap.size+1+1+1,1,U⟩ (Z Y (r.res.step:Int))).setCell ⟨w.heap.size+1+1+1,2,U⟩ (Z Y (r.res.dG:Int))).setCell ⟨w.heap.size+1+1+1,3,U⟩ (J q (Wn r.res.dJ) X)).ownsRow w.heap.size 2 1 (J q (Wn r.res.dJ) X) (Wn r.res.dJ) (r.res.dJ.map (Z Y))):=by
     have b1:=Tq L _ 0 _ _ (Z .u8 (r.res.outcome:Int)) (cT C);have b2:=Tq _ _ 1 _ _ (Z Y (r.res.step:Int)) b1;have b3:=Tq _ _ 2 _ _ (Z Y (r.res.dG:Int)) b2;have b4:=Tq _ _ 3 _ _ (J q (Wn r.res.dJ) X) b3;have c1:=(cT ax).yK (cT C) (by decide) (by omega) 0 (Z .u8 (r.res.outcome:Int));have c2:=c1.yK b1 (by decide) (by omega) 1 (Z Y (r.res.step:Int));have c3:=c2.yK b2 (by decide) (by omega) 2 (Z Y (r.res.dG:Int));have c4:=c3.yK b3 (by decide) (by omega) 3 (J q (Wn r.res.dJ) X);refine⟨by rw[b4];rfl,c4,?_,lR (lR (lR (lR (cT an) (by omega) 0 _) (by omega) 1 _) (by omega) 2 _) (by omega) 3 _,?_⟩
     .rw[Tv _ _ _ _ (show w.heap.size+1+1+1+1+1≠w.heap.size+1+1+1 by omega),Tv _ _ _ _ (show w.heap.size+1+1+1+1+1≠w.heap.size+1+1+1 by omega),Tv _ _ _ _ (show w.heap.size+1+1+1+1+1≠w.heap.size+1+1+1 by omega),Tv _ _ _ _ (show w.heap.size+1+1+1+1+1≠w.heap.size+1+1+1 by omega)];exact cT aw
     .have af:∀(W:V5) (i:Nat) (x:V6) (cs:Array V6),W.heap[w.heap.size+1+1+1]?=S (D cs 32 (0,0))->W.ownsRow w.heap.size 2 1 (J q (Wn r.res.dJ) X) (Wn r.res.dJ) (r.res.dJ.map (Z Y))->(W.setCell ⟨w.heap.size+1+1+1,i,U⟩ x).ownsRow w.heap.size 2 1 (J q (Wn r.res.dJ) X) (Wn r.res.dJ) (r.res.dJ.map (Z Y)):=λW i x cs hA hx =>
       Ui hx (λe=>by obtain⟨y,hy,_⟩:=di hx e;exact dh hy hA (by decide) rfl) _
      exact af _ 3 _ _ b3 (af _ 2 _ _ b2 (af _ 1 _ _ b1 (af _ 0 _ _ (cT C) (cT aO))))
    clear C aw ax an aO M m1 m2;go_upto_region 8 with fail;clear x0 x1 x2 x3 y0 y1 y2 y3;generalize Wm _ _ _=u at H8 ⊢;have G:=(cT H8).1;have V:=(cT H8).2.1.rb;have aq:=(cT H8).2.2.1;dsimp only[tY] at V;have x0:u.cell? ⟨w.heap.size+1+1+1,0,U⟩=S (Z .u8 (r.res.outcome:Int)):=by rw[Ti u _ 0 _ _ _ G];rfl
    have x1:u.cell? ⟨w.heap.size+1+1+1,1,U⟩=S (Z Y (r.res.step:Int)):=by rw[Ti u _ 1 _ _ _ G];rfl
    have x2:u.cell? ⟨w.heap.size+1+1+1,2,U⟩=S (Z Y (r.res.dG:Int)):=by rw[Ti u _ 2 _ _ _ G];rfl
    have x3:u.cell? ⟨w.heap.size+1+1+1,3,U⟩=S (J q (Wn r.res.dJ) X):=by rw[Ti u _ 3 _ _ _ G];rfl
    have x4:u.cell? ⟨w.heap.size+1+1+1+1,0,U⟩=S (Z Y (dp:Int)):=by rw[Ti u _ 0 _ _ _ V];rfl
    have x5:u.cell? ⟨w.heap.size+1+1+1+1,1,U⟩=S (Z Y (r.saved:Int)):=by rw[Ti u _ 1 _ _ _ V];rfl
    have x6:u.cell? ⟨w.heap.size+1+1+1+1+1,0,U⟩=S (Z Y 0):=by rw[Ti u _ 0 _ _ _ aq];rfl
    have y0:∀i,u.frozen? ⟨w.heap.size+1+1+1,i,U⟩=Wg:=λi=>by simp[World.frozen?,G]
    have y1:∀i,u.frozen? ⟨w.heap.size+1+1+1+1,i,U⟩=Wg:=λi=>by simp[World.frozen?,V]
    have y2:∀i,u.frozen? ⟨w.heap.size+1+1+1+1+1,i,U⟩=Wg:=λi=>by simp[World.frozen?,aq]
    have bL:u.drew.setCell ⟨w.heap.size+1+1+1,0,U⟩ (Z .u8 (r.res.outcome:Int))=u.drew:=gd (W:=u.drew) G rfl;have bM:u.drew.setCell ⟨w.heap.size+1+1+1,1,U⟩ (Z Y (r.res.step:Int))=u.drew:=gd (W:=u.drew) G rfl;have bN:u.drew.setCell ⟨w.heap.size+1+1+1,2,U⟩ (Z Y (r.res.dG:Int))=u.drew:=gd (W:=u.drew) G rfl;have bO:u.drew.setCell ⟨w.heap.size+1+1+1,3,U⟩ (J q (Wn r.res.dJ) X)=u.drew:=gd (W:=u.drew) G rfl;have bP:u.drew.setCell ⟨w.heap.size+1+1+1+1,0,U⟩ (Z Y (dp:Int))=u.drew:=gd (W:=u.drew) V rfl;have bQ:u.drew.setCell ⟨w.heap.size+1+1+1+1,1,U⟩ (Z Y (r.saved:Int))=u.drew:=gd (W:=u.drew) V rfl;have bR:u.drew.setCell ⟨w.heap.size+1+1+1+1+1,0,U⟩ (Z Y 0)=u.drew:=gd (W:=u.drew) aq rfl;have HF:Hid (PP (.returned (mX r.res.outcome r.res.step r.res.dG q (Wn r.res.dJ) X dp r.saved 0)) u.drew):=by
     show PP _ _
     rw[<-cT hO];obtain⟨g1,g2,g3,g4,g5⟩:=cT H8;refine⟨⟨q,Wn r.res.dJ,X,by rw[ao],?_⟩,O7,v7,T7,g2.sf.below V3.drew,(xq g4 (by omega)).trans (fx.below _ V3.drew)⟩;exact de g5 V3.drew
    have bd:Hid (Qw u.drew (w.heap.size+1+1+1) (w.heap.size+1+1+1+1) (w.heap.size+1+1+1+1+1) r.res.outcome r.res.step r.res.dG q (Wn r.res.dJ) X dp r.saved 0):=⟨G,V,aq⟩
    clear H8 G V aq
    go_region
    all_goals
     go_wp2;exact At (XB:=w.heap.size+1+1+1) (RB:=w.heap.size+1+1+1+1) (GB:=w.heap.size+1+1+1+1+1) (by rfl) (by rfl) (by rfl) (cT bd) (cT HF)
   .obtain rfl:=m2 ao;refine pz (XB:=w.heap.size+1+1+1) (RB:=w.heap.size+1+1+1+1) (GB:=w.heap.size+1+1+1+1+1) (by rfl) (by rfl) (by rfl) ⟨cT C,(cT ax).rb,cT aw⟩ (λo=>?_);rw[<-cT hO];obtain⟨g1,g2⟩:=(cT ax).leave (cT aw) (by decide) (by omega) (cT an) (by omega) (Z Y r.e) o;refine⟨⟨U,0,0,?_,?_⟩,O7,v7,T7,g1.sf,xq g2 (by omega)⟩
    .have hn:=wk (cT ab) ao;rw[hn];rfl
    .have hn:=wk (cT ab) ao;rw[hn];exact TH _ _ _ _
  .obtain rfl:=k2 hz;have bc:6<w.heap.size:=(cT m).pw.lt;refine pz (XB:=w.heap.size+1+1+1) (RB:=w.heap.size+1+1+1+1) (GB:=w.heap.size+1+1+1+1+1) (by rfl) (by rfl) (by rfl) ⟨cT aD,(cT aj).rb,cT au⟩ (λo=>?_);rw[<-cT hO,Tg hz];obtain⟨g1,g2⟩:=(cT aj).leave (cT au) (by decide) (by omega) (cT s) (by omega) (Z Y rc.1) o;exact⟨⟨U,0,0,rfl,TH _ _ _ _⟩,O6,v6,T6,g1.sf,xq g2 (by omega)⟩
 .obtain⟨q1,q2,q3⟩:=bJ;obtain⟨xp,xn,xc,xa⟩:=x;dsimp only at q1 q2 q3;have bS:=q1.symm;subst bS;have bT:xa=F.all:=by rw[aQ];exact q2
  subst bT;have bH:w.ownsRow 0 104 4 (J xp n xc) n (jk F.val F.fD F.iH F.jf n):=by rw[aQ];exact q3
  clear q2 q3;have bV:=cU aQ;clear aQ;have aA:=cU (BC l j dd n cY v T' dp ⟨xp,n,xc,F.all⟩ W0 (by have:=((cT m).below ag).sh;rw[bC] at this;exact this));unfold Rt.kU at aA;dsimp only at aA;refine(cT aA).mono ?_;rintro e w1 ⟨rfl,ae⟩;have hA:∀o,V4 W0 (w1.alloc o):=λo=>ae.trans (((Th _ w1).alloc V2 o).mono ae.size)
  go_upto_region 5 with fail;generalize ay:Wl _ _=wX;have hX:=RX (wX:=wX) (FB:=w1.heap.size) (p0:=xp) (k0:=xc) (by rw[<-ay];exact hA _) (by rw[<-ay];exact Tk w1 _) (by have:=ae.size;have:=ag.size;omega) (de (de bH ag) (show V4 W0 wX by rw[<-ay];exact hA _));obtain⟨FB,aI⟩:∃q,w1.heap.size=q:=⟨_,rfl⟩
  rw[aI] at hX ⊢;have HX:=cU hX;clear hX RX a1 a2 a3 a4 a5 a6 ag bx ae hA ay aA aI bH bC;have f0:wX.cell? ⟨FB,0,U⟩=S (Z Y (dp:Int)):=by rw[Ti wX _ 0 _ _ _ (cT HX).fb];rfl
  have r0:wX.cell? ⟨w.heap.size+1+1+1+1,0,U⟩=S (Z Y 0):=by rw[Ti wX _ 0 _ _ _ (cT HX).rb];rfl
  have a8:wX.frozen? ⟨w.heap.size+1+1+1+1,0,U⟩=Wg:=by simp[World.frozen?,(cT HX).rb]
  have A:=cU (cT HX).from
  have s5:(wX.setCell ⟨w.heap.size+1+1+1+1,0,U⟩ (Z Y (dp:Int))).cell? ⟨w.heap.size+1,0,U⟩=S (V9 (S ⟨l,0,U⟩)):=by rw[Ti _ _ 0 _ _ _ (cT A).sb];rfl
  clear HX;go_upto_region 6 with fail;clear f0 r0 a8;generalize Wm _ _ _=w5 at A s5 ⊢;have ai:Hid ((tY w j E l dd n cY FB every dp R xp xc F.all).I w5 Q O v T 0):=⟨(cT m).below (cT A).lJ,(cT A).fb,(cT A).eb,(cT A).sb,(cT A).rb,by have:=(cT m).pw.lt;show w.heap.size+1+1+1+1≠_;omega⟩
  have aB:=cU (xj j E l dd n cY nn b Q R O v T w5 (cT ai).sf (λx hx=>by have:=(cT HT) x hx;omega) (cT aP) (by omega) (by omega) (cT bu));have aC:Hid (Sm (ep Q (dU Q.fE ((T.drop (Wn T-cY)).map (·.1)))).2 nn b):=(gA.tK (λo ho=>(ru _ _ o ho).1) (cT aP)).all;unfold EP at hO;obtain⟨rc,ba⟩:∃q,Hid (ep Q (dU Q.fE ((T.drop (Wn T-cY)).map (·.1)))=q):=⟨_,rfl⟩
  rw[cT ba] at aB aC hO;go_wp2_with fail;refine(cT aB).mono ?_;rintro e w6 ⟨k1,k2,O6,v6,T6,hG,aJ,ar⟩;obtain⟨aK,az⟩:=(cT ai).next aJ ar
  have aj:=cU aK;have s:Hid (fx w (OR O l v (w.heap.size+1+1+1+1)) w6 (OR O6 l v6 (w.heap.size+1+1+1+1))):=(fx.below _ (cT A).lJ).trans az;have aa:∀{k:Nat} {c:Array V6} {t:TypeId},w5.heap[k]?=S (D c t (0,0))->(t∉iX/\t≠113/\t≠181)->w6.heap[k]?=S (D c t (0,0)):=λ{k c t} hk ht=>(ar.far (cX hk) (je (cT ai).sf hk ht)).1.trans hk
  have aL:=cU (aa (cT A).jb (by decide));have aD:=cU (aa (cT A).xb (by decide));have au:=cU (aa (cT A).gb (by decide));have aM:Hid (w6.ownsRow 0 104 4 (J xp n xc) n (jk F.val F.fD F.iH F.jf n)):=Dk.dy (cT A).row ar.kept (λg hg hq=>DT (cT ai).sf (cT A).row (by decide) g hg hq);clear aK az aJ ar aa A ai aB s5;by_cases hz:rc.1=0
  .obtain rfl:=k1 hz;have aE:T6=T.drop (Wn T-cY):=hG hz;clear k1 k2 hG;rw[Tf (by rw[hz];simp),<-aE] at hO;obtain⟨r,ab⟩:∃q,Hid (rz P Es cZ every cY dd n dp ((cZ-dp)+1) dp F (T6.map (·.1)) 0 rc.2=q):=⟨_,rfl⟩
   rw[cT ab] at hO;have av:=cU (NC (tY w j E l dd n cY FB every dp R xp xc F.all) B pf kf pe ke cZ P Es xp xc F z f r nn b rc.2 O6 v6 T6 w6 (cT aj) (λW O' v' hs=>cT aY W O' v' (w.heap.size+1+1+1+1) (by omega) ((cT s).trans hs)) (cT aM) (cT bs) (cT HJ) hl aT bh aU bj (cT aC) bn ae bo hm (λx hx=>(cT HT) x (by rw[aE] at hx;exact UR hx)) (by show (Wn T6)<=cY;rw[aE,Us];omega) (cT ab));obtain⟨j0,j1,j2,j3⟩:=fQ (B:=B) (pf:=pf) (n:=n) (kf:=kf) (pe:=pe) (ke:=ke) (cZ:=cZ) (cT aL);obtain⟨f0,f1,f2,_⟩:=dR (cT aj).fb;unfold gz dY at av;dsimp only[tY] at av f0 f1 f2;go_wp2_with fail;refine(cT av).mono ?_;rintro e L ⟨m1,m2,O7,v7,T7,aN,ad⟩;dsimp only[tY] at ad;have ak:∀{k:Nat} {c:Array V6} {t:TypeId},w6.heap[k]?=S (D c t (0,0))->((t∉iX/\t≠113/\t≠181)/\t≠43)->L.heap[k]?=S (D c t (0,0)):=λ{k c t} hk ht=>(ad.far (cX hk) ((cT aj).not hk ht)).1.trans hk
   have C:=cU (ak (cT aD) (by decide));have aw:=cU (ak (cT au) (by decide));have ax:=cU aN;have an:=cU ((cT s).trans ad);have bc:6<w.heap.size:=(cT m).pw.lt;clear ak aN ad aD au aL aM av aC j0 j1 j2 j3 f0 f1 f2;by_cases ao:r.e=0
   .obtain⟨sl,rfl,M⟩:=m1 ao;obtain⟨q,X,rfl⟩:=l5 M;have aO:=cU (Rd.mj M (cT s).kept.size);have x0:L.cell? ⟨w.heap.size+1+1+1,0,U⟩=S (Z .u8 0):=by rw[Ti L _ 0 _ _ _ (cT C)];rfl
    have x1:L.cell? ⟨w.heap.size+1+1+1,1,U⟩=S (Z Y 0):=by rw[Ti L _ 1 _ _ _ (cT C)];rfl
    have x2:L.cell? ⟨w.heap.size+1+1+1,2,U⟩=S (Z Y 0):=by rw[Ti L _ 2 _ _ _ (cT C)];rfl
    have x3:L.cell? ⟨w.heap.size+1+1+1,3,U⟩=S (J U 0 0):=by rw[Ti L _ 3 _ _ _ (cT C)];rfl
    have y0:L.frozen? ⟨w.heap.size+1+1+1,0,U⟩=Wg:=by simp[World.frozen?,(cT C)]
    have y1:L.frozen? ⟨w.heap.size+1+1+1,1,U⟩=Wg:=by simp[World.frozen?,(cT C)]
    have y2:L.frozen? ⟨w.heap.size+1+1+1,2,U⟩=Wg:=by simp[World.frozen?,(cT C)]
    have y3:L.frozen? ⟨w.heap.size+1+1+1,3,U⟩=Wg:=by simp[World.frozen?,(cT C)]
    have H8:Hid (((((L.setCell ⟨w.heap.size+1+1+1,0,U⟩ (Z .u8 (r.res.outcome:Int))).setCell ⟨w.heap.size+1+1+1,1,U⟩ (Z Y (r.res.step:Int))).setCell ⟨w.heap.size+1+1+1,2,U⟩ (Z Y (r.res.dG:Int))).setCell ⟨w.heap.size+1+1+1,3,U⟩ (J q (Wn r.res.dJ) X)).heap[w.heap.size+1+1+1]?=S (D #[Z .u8 (r.res.outcome:Int),Z Y (r.res.step:Int),Z Y (r.res.dG:Int),J q (Wn r.res.dJ) X] 32 (0,0))/\(tY w j E l dd n cY FB every dp R xp xc F.all).I ((((L.setCell ⟨w.heap.size+1+1+1,0,U⟩ (Z .u8 (r.res.outcome:Int))).setCell ⟨w.heap.size+1+1+1,1,U⟩ (Z Y (r.res.step:Int))).setCell ⟨w.heap.size+1+1+1,2,U⟩ (Z Y (r.res.dG:Int))).setCell ⟨w.heap.size+1+1+1,3,U⟩ (J q (Wn r.res.dJ) X)) r.R O7 v7 T7 r.saved/\((((L.setCell ⟨w.heap.size+1+1+1,0,U⟩ (Z .u8 (r.res.outcome:Int))).setCell ⟨w.heap.size+1+1+1,1,U⟩ (Z Y (r.res.step:Int))).setCell ⟨w.heap.size+1+1+1,2,U⟩ (Z Y (r.res.dG:Int))).setCell ⟨w.heap.size+1+1+1,3,U⟩ (J q (Wn r.res.dJ) X)).heap[w.heap.size+1+1+1+1+1]?=S (D #[Z Y 0] 33 (0,0))/\fx w (OR O l v (w.heap.size+1+1+1+1)) ((((L.setCell ⟨w.heap.size+1+1+1,0,U⟩ (Z .u8 (r.res.outcome:Int))).setCell ⟨w.heap.size+1+1+1,1,U⟩ (Z Y (r.res.step:Int))).setCell ⟨w.heap.size+1+1+1,2,U⟩ (Z Y (r.res.dG:Int))).setCell ⟨w.heap.size+1+1+1,3,U⟩ (J q (Wn r.res.dJ) X)) (OR O7 l v7 (w.heap.size+1+1+1+1))/\((((L.setCell ⟨w.heap.size+1+1+1,0,U⟩ (Z .u8 (r.res.outcome:Int))).setCell ⟨w.heap.size+1+1+1,1,U⟩ (Z Y (r.res.step:Int))).setCell ⟨w.heap.size+1+1+1,2,U⟩ (Z Y (r.res.dG:Int))).setCell ⟨w.heap.size+1+1+1,3,U⟩ (J q (Wn r.res.dJ) X)).ownsRow w.heap.size 2 1 (J q (Wn r.res.dJ) X) (Wn r.res.dJ) (r.res.dJ.map (Z Y))):=by
     have b1:=Tq L _ 0 _ _ (Z .u8 (r.res.outcome:Int)) (cT C);have b2:=Tq _ _ 1 _ _ (Z Y (r.res.step:Int)) b1;have b3:=Tq _ _ 2 _ _ (Z Y (r.res.dG:Int)) b2;have b4:=Tq _ _ 3 _ _ (J q (Wn r.res.dJ) X) b3;have c1:=(cT ax).yK (cT C) (by decide) (by omega) 0 (Z .u8 (r.res.outcome:Int));have c2:=c1.yK b1 (by decide) (by omega) 1 (Z Y (r.res.step:Int));have c3:=c2.yK b2 (by decide) (by omega) 2 (Z Y (r.res.dG:Int));have c4:=c3.yK b3 (by decide) (by omega) 3 (J q (Wn r.res.dJ) X);refine⟨by rw[b4];rfl,c4,?_,lR (lR (lR (lR (cT an) (by omega) 0 _) (by omega) 1 _) (by omega) 2 _) (by omega) 3 _,?_⟩
     .rw[Tv _ _ _ _ (show w.heap.size+1+1+1+1+1≠w.heap.size+1+1+1 by omega),Tv _ _ _ _ (show w.heap.size+1+1+1+1+1≠w.heap.size+1+1+1 by omega),Tv _ _ _ _ (show w.heap.size+1+1+1+1+1≠w.heap.size+1+1+1 by omega),Tv _ _ _ _ (show w.heap.size+1+1+1+1+1≠w.heap.size+1+1+1 by omega)];exact cT aw
     .have af:∀(W:V5) (i:Nat) (x:V6) (cs:Array V6),W.heap[w.heap.size+1+1+1]?=S (D cs 32 (0,0))->W.ownsRow w.heap.size 2 1 (J q (Wn r.res.dJ) X) (Wn r.res.dJ) (r.res.dJ.map (Z Y))->(W.setCell ⟨w.heap.size+1+1+1,i,U⟩ x).ownsRow w.heap.size 2 1 (J q (Wn r.res.dJ) X) (Wn r.res.dJ) (r.res.dJ.map (Z Y)):=λW i x cs hA hx =>
       Ui hx (λe=>by obtain⟨y,hy,_⟩:=di hx e;exact dh hy hA (by decide) rfl) _
      exact af _ 3 _ _ b3 (af _ 2 _ _ b2 (af _ 1 _ _ b1 (af _ 0 _ _ (cT C) (cT aO))))
    clear C aw ax an aO M m1 m2;go_upto_region 8 with fail;clear x0 x1 x2 x3 y0 y1 y2 y3;generalize Wm _ _ _=u at H8 ⊢;have G:=(cT H8).1;have V:=(cT H8).2.1.rb;have aq:=(cT H8).2.2.1;dsimp only[tY] at V;have x0:u.cell? ⟨w.heap.size+1+1+1,0,U⟩=S (Z .u8 (r.res.outcome:Int)):=by rw[Ti u _ 0 _ _ _ G];rfl
    have x1:u.cell? ⟨w.heap.size+1+1+1,1,U⟩=S (Z Y (r.res.step:Int)):=by rw[Ti u _ 1 _ _ _ G];rfl
    have x2:u.cell? ⟨w.heap.size+1+1+1,2,U⟩=S (Z Y (r.res.dG:Int)):=by rw[Ti u _ 2 _ _ _ G];rfl
    have x3:u.cell? ⟨w.heap.size+1+1+1,3,U⟩=S (J q (Wn r.res.dJ) X):=by rw[Ti u _ 3 _ _ _ G];rfl
    have x4:u.cell? ⟨w.heap.size+1+1+1+1,0,U⟩=S (Z Y (dp:Int)):=by rw[Ti u _ 0 _ _ _ V];rfl
    have x5:u.cell? ⟨w.heap.size+1+1+1+1,1,U⟩=S (Z Y (r.saved:Int)):=by rw[Ti u _ 1 _ _ _ V];rfl
    have x6:u.cell? ⟨w.heap.size+1+1+1+1+1,0,U⟩=S (Z Y 0):=by rw[Ti u _ 0 _ _ _ aq];rfl
    have y0:∀i,u.frozen? ⟨w.heap.size+1+1+1,i,U⟩=Wg:=λi=>by simp[World.frozen?,G]
    have y1:∀i,u.frozen? ⟨w.heap.size+1+1+1+1,i,U⟩=Wg:=λi=>by simp[World.frozen?,V]
    have y2:∀i,u.frozen? ⟨w.heap.size+1+1+1+1+1,i,U⟩=Wg:=λi=>by simp[World.frozen?,aq]
    have bL:u.drew.setCell ⟨w.heap.size+1+1+1,0,U⟩ (Z .u8 (r.res.outcome:Int))=u.drew:=gd (W:=u.drew) G rfl;have bM:u.drew.setCell ⟨w.heap.size+1+1+1,1,U⟩ (Z Y (r.res.step:Int))=u.drew:=gd (W:=u.drew) G rfl;have bN:u.drew.setCell ⟨w.heap.size+1+1+1,2,U⟩ (Z Y (r.res.dG:Int))=u.drew:=gd (W:=u.drew) G rfl;have bO:u.drew.setCell ⟨w.heap.size+1+1+1,3,U⟩ (J q (Wn r.res.dJ) X)=u.drew:=gd (W:=u.drew) G rfl;have bP:u.drew.setCell ⟨w.heap.size+1+1+1+1,0,U⟩ (Z Y (dp:Int))=u.drew:=gd (W:=u.drew) V rfl;have bQ:u.drew.setCell ⟨w.heap.size+1+1+1+1,1,U⟩ (Z Y (r.saved:Int))=u.drew:=gd (W:=u.drew) V rfl;have bR:u.drew.setCell ⟨w.heap.size+1+1+1+1+1,0,U⟩ (Z Y 0)=u.drew:=gd (W:=u.drew) aq rfl;have HF:Hid (PP (.returned (mX r.res.outcome r.res.step r.res.dG q (Wn r.res.dJ) X dp r.saved 0)) u.drew):=by
     show PP _ _
     rw[<-cT hO];obtain⟨g1,g2,g3,g4,g5⟩:=cT H8;refine⟨⟨q,Wn r.res.dJ,X,by rw[ao],?_⟩,O7,v7,T7,g2.sf.below V3.drew,(xq g4 (by omega)).trans (fx.below _ V3.drew)⟩;exact de g5 V3.drew
    have bd:Hid (Qw u.drew (w.heap.size+1+1+1) (w.heap.size+1+1+1+1) (w.heap.size+1+1+1+1+1) r.res.outcome r.res.step r.res.dG q (Wn r.res.dJ) X dp r.saved 0):=⟨G,V,aq⟩
    clear H8 G V aq
    go_region
    all_goals
     go_wp2;exact At (XB:=w.heap.size+1+1+1) (RB:=w.heap.size+1+1+1+1) (GB:=w.heap.size+1+1+1+1+1) (by rfl) (by rfl) (by rfl) (cT bd) (cT HF)
   .obtain rfl:=m2 ao;refine pz (XB:=w.heap.size+1+1+1) (RB:=w.heap.size+1+1+1+1) (GB:=w.heap.size+1+1+1+1+1) (by rfl) (by rfl) (by rfl) ⟨cT C,(cT ax).rb,cT aw⟩ (λo=>?_);rw[<-cT hO];obtain⟨g1,g2⟩:=(cT ax).leave (cT aw) (by decide) (by omega) (cT an) (by omega) (Z Y r.e) o;refine⟨⟨U,0,0,?_,?_⟩,O7,v7,T7,g1.sf,xq g2 (by omega)⟩
    .have hn:=wk (cT ab) ao;rw[hn];rfl
    .have hn:=wk (cT ab) ao;rw[hn];exact TH _ _ _ _
  .obtain rfl:=k2 hz;have bc:6<w.heap.size:=(cT m).pw.lt;refine pz (XB:=w.heap.size+1+1+1) (RB:=w.heap.size+1+1+1+1) (GB:=w.heap.size+1+1+1+1+1) (by rfl) (by rfl) (by rfl) ⟨cT aD,(cT aj).rb,cT au⟩ (λo=>?_);rw[<-cT hO,Tg hz];obtain⟨g1,g2⟩:=(cT aj).leave (cT au) (by decide) (by omega) (cT s) (by omega) (Z Y rc.1) o;exact⟨⟨U,0,0,rfl,TH _ _ _ _⟩,O6,v6,T6,g1.sf,xq g2 (by omega)⟩
end Ru
end Go.Proofs.YtgkkdpegcieakaaGreatDoor
