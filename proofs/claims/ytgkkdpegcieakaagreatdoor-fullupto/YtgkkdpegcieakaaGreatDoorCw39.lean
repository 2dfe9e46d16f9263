import Derived.Test.YtgkkdpegcieakaaGreatDoorCw38
set_option linter.all false
set_option maxRecDepth 100000
set_option maxHeartbeats 16000000
namespace Go.Proofs.YtgkkdpegcieakaaGreatDoor
open Go.Proofs.Tryz
open Value renaming int→Z,slice→J,pointer→WV
open Obj renaming cells→D
open Option renaming none→U,some→S
open Bool renaming false→W9
open List renaming length→Xg
open _root_.Array renaming size→K
open World renaming alloc→Xe,setCell→Xf,heap→E
open IntKind renaming i64→Y
open Go renaming World→WR,Value→WS,Calls→WT
namespace Ru
open Go.RowKit
open Sp (Pg Ed Cfg nH quiet lI fh gA eY iO)
open Rd (Rk e0)
open Pk (iV Sm fj TP dh cV de)
open Dk (Kept)
structure SC (w:WR) (jc:Array WS) (S every n:Nat) (wX:WR) (FB:Nat) (c0:Cfg) (dj:Nat) (p0:Option Addr) (k0:Nat) (rep:Int):Prop where
 lJ:WQ w wX
 jb:wX.heap[K (E w)]?=some (D jc 75 (0,0))
 sb:wX.heap[K (E w)+1]?=some (D #[WV (some ⟨S,0,U⟩)] 85 (0,0))
 eb:wX.heap[K (E w)+1+1]?=some (D #[Z Y (every:Int)] 3 (0,0))
 xb:wX.heap[K (E w)+1+1+1]?=some (D #[Z .u8 0,Z Y 0,Z Y 0,J U 0 0] 32 (0,0))
 rb:wX.heap[K (E w)+1+1+1+1]?=some (D #[Z Y rep,Z Y 0] 43 (0,0))
 gb:wX.heap[K (E w)+1+1+1+1+1]?=some (D #[Z Y 0] 33 (0,0))
 fb:wX.heap[FB]?=some (D #[Z Y (dj:Int),J p0 n k0,Z Y c0.all] 80 (0,0))
 fl:K (E w)<=FB
 row:wX.ownsRow 0 104 4 (J p0 n k0) n (jg c0.val c0.fC c0.iI c0.jf n)
variable {FB dj every n:Nat}{w:WR}
theorem SC.from{jc:Array WS}{b:Nat}{wX:WR}{u:Cfg}{p0:Option Addr}{k0:Nat}{rep:Int}(h:SC w jc b every n wX FB u dj p0 k0 rep): SC w jc b every n (wX.setCell ⟨K (E w)+1+1+1+1,0,U⟩ (Z Y (dj:Int))) FB u dj p0 k0 (dj:Int):=by
 have l:∀{j:Nat} {m:Array WS} {t:TypeId},wX.heap[j]?=S (D m t (0,0))->j≠(K (E w))+1+1+1+1->(wX.setCell ⟨K (E w)+1+1+1+1,0,U⟩ (Z Y (dj:Int))).heap[j]?=S (D m t (0,0)):=λ{j m t} y r=>by rw[Uj wX _ _ j r];exact y
 refine⟨h.lJ.setCell (p:=⟨K (E w)+1+1+1+1,0,U⟩) (show (K (E w))<=K (E w)+1+1+1+1 by omega) _,l h.jb (by omega),l h.sb (by omega),l h.eb (by omega),l h.xb (by omega),?_,l h.gb (by omega),l h.fb (de h.fb h.rb (by decide)),h.fl,?_⟩
 .rw[Ue wX _ 0 _ _ _ h.rb];rfl
 .refine U1 h.row (λe=>?_) _;obtain⟨z,A,_⟩:=dh h.row e;exact de A h.rb (by decide) O
variable {da:Nat}{t:TypeId}
theorem uj.zs{b E e cX:Nat}{Q R:Rk}{O:Nat->Prop}{v:WS}{T:Sn.Tb}{l m RB sv:Nat}{y z:WS}(h:uj w b E e da n cX Q R O v T FB l m RB every dj sv y z){K:Nat}{c:Array WS}(j:w.heap[K]?=S (D c t (0,0)))(ht:(t∉iH/\t≠113/\t≠181)/\t≠43/\t≠80/\t≠3/\t≠85)(r:K≠6)(i:Nat)(x:WS): uj (w.setCell ⟨K,i,U⟩ x) b E e da n cX Q R O v T FB l m RB every dj sv y z:=h.set (je h.sf j ht.1) ⟨de j h.fb ht.2.2.1,de j h.eb ht.2.2.2.1,de j h.sb ht.2.2.2.2,de j h.rb ht.2.1,r⟩ i x
theorem lR{e:WR}{A B:Nat->Prop}(h:fj e A w B){K:Nat}(r:e.heap.size<=K)(i:Nat)(x:WS): fj e A (w.setCell ⟨K,i,U⟩ x) B:=by
 have b:Kept w (w.setCell ⟨K,i,U⟩ x) (λk=>k≠K):=(Kept.refl w _).setCell (λb=>b O) _;refine⟨⟨b.os.trans h.kept.os,b.tape.trans h.kept.tape,b.output.trans h.kept.output,Uc h.kept.size b.size,λj l m=>?_⟩,h.own⟩;rw[b.block j (by have:=h.kept.size;omega) (by omega)];exact h.kept.block j l m
theorem uj.leave{j:WR}{A:Nat->Prop}{b E e cX:Nat}{Q R:Rk}{O:Nat->Prop}{v:WS}{T:Sn.Tb}{l m RB sv:Nat}{y z:WS}(h:uj w b E e da n cX Q R O v T FB l m RB every dj sv y z){K:Nat}{c:Array WS}(u:w.heap[K]?=S (D c t (0,0)))(ht:(t∉iH/\t≠113/\t≠181)/\t≠43/\t≠80/\t≠3/\t≠85)(B:K≠6)(C:fj j A w (OR O e v RB))(F:j.heap.size<=K)(x:WS)(o:Obj):uj ((w.setCell ⟨K,0,U⟩ x).alloc o) b E e da n cX Q R O v T FB l m RB every dj sv y z/\fj j A ((w.setCell ⟨K,0,U⟩ x).alloc o) (OR O e v RB):=by
 have r:Below (w.setCell ⟨K,0,U⟩ x).heap.size (w.setCell ⟨K,0,U⟩ x) ((w.setCell ⟨K,0,U⟩ x).alloc o):=WO.alloc WN _;exact⟨(h.zs u ht B 0 x).below r,(lR C F 0 x).trans (fj.below _ r)⟩
theorem gd{W:WR}{g i:Nat}{C:Array WS}{x:WS}(h:W.heap[g]?=S (D C t (0,0)))(m:C[i]?=S x): W.setCell ⟨g,i,U⟩ x=W:=by
 obtain⟨hi,b⟩:=Ug.1 m;have r:C.setIfInBounds i x=C:=by rw[<-b];simp[Array.setIfInBounds,hi]
 have e:(W.setCell ⟨g,i,U⟩ x).heap=W.heap:=by
  apply Array.ext_getElem?;intro j;by_cases l:j=g
  .subst l;rw[Ue W j i _ _ x h,r,h]
  .exact Uj W _ _ j l
 unfold Xf at e ⊢;cases W;simp only at e ⊢;rw[e]
theorem vu{P:Pg}{Es:List Ed}{cap keep:Nat}: ∀{g s sv:Nat} {c:Cfg} {b:List Nat} {Q:Rk} {j:Out},rz P Es cap every keep da n dj g s c b sv Q=j->j.e≠0->j.res=fG
 |0,s,sv,c,b,Q,j,h,l=>by rw[rz] at h;rw[<-h]
 |g+1,s,sv,c,b,Q,j,h,l=>by
  by_cases r:gA cap c s=0
  .obtain⟨_,C,u⟩:=FC h r;have hS:∀{m:Nat} {y:List Nat} {z:Rk},QI P Es cap every keep da n dj g s m c y z (lI P Es c s n) j->j.res=fG:=λ{m y z} hh=>by
    unfold QI at hh;cases A:lI P Es c s n with
    |error i=>rw[A] at hh;rw[hh] at l;exact absurd O l
    |ok a=>rw[A] at hh;exact vu hh l
   by_cases hd:dj<s/\s%every=0
   .by_cases B:(ud Q c n s da b keep sv).1=0
    .exact hS ((u hd).2 B)
    .rw[(u hd).1 B]
   .exact hS (C hd)
  .exact absurd (JK h O r).2.2.1 l
def tW(w:WR)(b E e da n cX FB every dj:Nat)(R:Rk)(p0:Option Addr)(k0:Nat)(j:Int):Rc:=⟨b,E,e,da,n,cX,FB,w.heap.size+1+1,w.heap.size+1,w.heap.size+1+1+1+1,every,dj,R,J p0 n k0,Z Y j⟩
theorem CO(j E l da n cX every cY B:Nat)(pf:Option Addr)(kf:Nat)(pe:Option Addr)(ke:Nat)(P:Pg)(Es:List Ed)(z f:Addr)(vs:List Int)(dj:Nat)(F:Cfg)(nn b:Nat)(Q R:Rk)(O:Nat->Prop)(v:WS)(T:Sn.Tb)(w:WR)(h:ou w j E l da n cX Q R O v T)(bH:(T=[]/\dj=0/\F=Sp.fX P vs)\/(∃T' x,T=T'++[(dj,x)]/\F=fp Q.rd n dj/\qi w 0 Q.rd n (dj,x)))(aR:∀W O' v' RB,w.heap.size<=RB->fj w (OR O l v RB) W (OR O' l v' RB)->jJ W B P/\jY W z f/\IG W pe n Es)(hint:fF w Y pf vs)(aW:Xg vs=n)(bd:eY n F)(hj:iO P Es n)(hl:cY<=200)(aS:da<4294967296)(bg:0<every)(aT:every<=50)(hT:∀x∈T,x.1<=dj)(bh:dj<=4294967295)(bj:Sm Q nn b)(bk:nn+2000<=1000000000)(ad:1000<=b)(bn:b<=2097152)(hm:cX<=5)(bo:Q.nD=0):WT prog 32 #[.agg (dV B pf n kf pe ke cY),WV (S ⟨l,0,U⟩),Z Y (every:Int)] w (NN j E l da n cX dj R O v (DJ P Es cY every cX da n dj F ((T.drop (Xg T-cX)).map (·.1)) Q) w):=by
 generalize hO:NN j E l da n cX dj R O v (DJ P Es cY every cX da n dj F ((T.drop (Xg T-cX)).map (·.1)) Q) w=PP;replace hO:=cT hO;have bT:∀(fn:Go.Fn) (first cap:Array WS) (w:WR),(Instr.makeFunc fn first cap).run prog w=.ok (.func fn first cap) w:=λ_ _ _ _=>rfl
 have bp:=hj.It;have m:=cT h;have aX:=cT aR;have bq:=cT hint;have br:=cT bd;have HJ:=cT hj;have HT:=cT hT;have aO:=cT bj;have bs:=cT bo;have bu:=cT (Oa w (dV B pf n kf pe ke cY) l every);clear h aR hint bd hj hT bj bo;unfold dV at *
 go_enter_defers func32,ntmps32
 go_wp2_with fail;generalize hW:Xe (Xe _ _) _=W0;obtain⟨⟨a1,a2,a3,a4,a5,a6⟩,af,bw⟩:=cS bu W0 hW.symm;clear hW bu;have RX:∀{wX:WR} {FB:Nat} {p0:Option Addr} {k0:Nat},WQ W0 wX->wX.heap[FB]?=S (D #[Z Y (dj:Int),J p0 n k0,Z Y F.all] 80 (0,0))->w.heap.size<=FB->wX.ownsRow 0 104 4 (J p0 n k0) n (jg F.val F.fC F.iI F.jf n)->SC w #[WV (S ⟨B,0,U⟩),J pf n kf,J pe n ke,Z Y (cY:Int)] l every n wX FB F dj p0 k0 0:=λ{wX FB p0 k0} hb hf hl hr =>
  ⟨af.trans (hb.mono af.size),(hb.block _ (cV a1)).trans a1,(hb.block _ (cV a2)).trans a2,(hb.block _ (cV a3)).trans a3,(hb.block _ (cV a4)).trans a4,(hb.block _ (cV a5)).trans a5,(hb.block _ (cV a6)).trans a6,hf,hl,hr⟩
 rcases bH with ⟨bx,bA,aY⟩|⟨T',x,bB,aP,bI⟩
 .have bC:(dj:Int)=0:=by rw[bA];rfl
  have az:=cT (Av l j da n cX v W0 (by have:=((cS m).below af).sh;rw[bx] at this;exact this));refine(cS az).mono ?_;rintro e w1 ⟨rfl,ad⟩;have bD:∀o,WQ W0 (w1.alloc o):=λo=>ad.trans (((T4 _ w1).alloc WN o).mono ad.size)
  have aF:W0.heap.size<=w1.heap.size:=ad.size;have bJ:w.heap.size<w1.heap.size:=by omega
  have b1:=(ad.block _ (cV a1)).trans a1;obtain⟨j0,j1,j2,j3⟩:=fK (B:=B) (pf:=pf) (n:=n) (kf:=kf) (pe:=pe) (ke:=ke) (cY:=cY) b1;have bE:Hid (∀W,WQ W0 W->WT prog 26 #[.agg #[WV (S ⟨B,0,U⟩),J pf n kf,J pe n ke,Z Y (cY:Int)]] W (B8 P vs n W)):=λW hW=>by
   have bF:=af.trans (hW.mono af.size);exact LZ B pf n kf pe ke cY P vs W (cS aX W O v (w.heap.size+1+1+1+1) (by omega) (fj.below _ bF)).1 ((cS bq).below bF) aW bp
  clear b1;go_wp2_with fail;generalize ax:Xe _ _=w2;have aE:WQ W0 w2:=by rw[<-ax];exact bD _
  have aQ:w2.heap[w1.heap.size]?=S (D #[Z Y 0,J U 0 0,Z Y 0] 80 (0,0)):=by rw[<-ax];exact T9 w1 _
  refine(cS bE w2 aE).mono ?_;rintro e w3 ⟨aZ,sl,rfl,M⟩;obtain⟨p0,k0,rfl⟩:=lO M;have ag:=(aZ.block _ (cV aQ)).trans aQ;have aG:w3.ownsRow 0 104 4 (J p0 n k0) n (jg F.val F.fC F.iI F.jf n):=by
   have:=Dk.rJ M;rw[aY,<-aW,<-Ld];rw[<-aW] at this;exact this
  have aU:Sp.eR P.al=F.all:=by rw[aY];rfl
  rw[aU];have aV:WQ W0 w3:=aE.trans (aZ.mono aE.size);obtain⟨FB,aH⟩:∃q,w1.heap.size=q:=⟨_,rfl⟩
  rw[aH] at ag aF aQ ⊢;have g0:w3.cell? ⟨FB,0,U⟩=S (Z Y 0):=by rw[T5 w3 _ 0 _ _ _ ag];rfl
  have g1:w3.cell? ⟨FB,1,U⟩=S (J U 0 0):=by rw[T5 w3 _ 1 _ _ _ ag];rfl
  have g2:w3.cell? ⟨FB,2,U⟩=S (Z Y 0):=by rw[T5 w3 _ 2 _ _ _ ag];rfl
  have i0:w3.frozen? ⟨FB,0,U⟩=W9:=by simp[World.frozen?,ag]
  have i1:w3.frozen? ⟨FB,1,U⟩=W9:=by simp[World.frozen?,ag]
  have i2:w3.frozen? ⟨FB,2,U⟩=W9:=by simp[World.frozen?,ag]
  have HX:Hid (SC w #[WV (S ⟨B,0,U⟩),J pf n kf,J pe n ke,Z Y (cY:Int)] l every n (((w3.setCell ⟨FB,0,U⟩ (Z Y 0)).setCell ⟨FB,1,U⟩ (J p0 n k0)).setCell ⟨FB,2,U⟩ (Z Y F.all)) FB F dj p0 k0 0):=by
   refine RX (((aV.setCell (p:=⟨FB,0,U⟩) aF _).setCell (p:=⟨FB,1,U⟩) aF _).setCell (p:=⟨FB,2,U⟩) aF _) ?_ (by have:=af.size;omega) ?_
   .have h1:=Ue w3 FB 0 _ _ (Z Y 0) ag;have h2:=Ue _ FB 1 _ _ (J p0 n k0) h1;have h3:=Ue _ FB 2 _ _ (Z Y F.all) h2;rw[h3,bC];rfl
   .have ae:∀(W:WR) (i:Nat) (x:WS) (cs:Array WS),W.heap[FB]?=S (D cs 80 (0,0))->W.ownsRow 0 104 4 (J p0 n k0) n (jg F.val F.fC F.iI F.jf n)->(W.setCell ⟨FB,i,U⟩ x).ownsRow 0 104 4 (J p0 n k0) n (jg F.val F.fC F.iI F.jf n):=λW i x cs hA hx =>
     U1 hx (λe=>by obtain⟨y,hy,_⟩:=dh hx e;exact de hy hA (by decide) rfl) _
    have h1:=Ue w3 FB 0 _ _ (Z Y 0) ag;have h2:=Ue _ FB 1 _ _ (J p0 n k0) h1;exact ae _ 2 _ _ h2 (ae _ 1 _ _ h1 (ae _ 0 _ _ ag aG))
  clear RX a1 a2 a3 a4 a5 a6 af bw ad bD ax az aH aE aQ ag M aG aU aV aZ bE j0 j1 j2 j3 bJ aF aY bC bA bx;go_upto_region 5 with fail;clear g0 g1 g2 i0 i1 i2;generalize Xf _ _ _=wX at HX ⊢;have f0:wX.cell? ⟨FB,0,U⟩=S (Z Y (dj:Int)):=by rw[T5 wX _ 0 _ _ _ (cS HX).fb];rfl
  have r0:wX.cell? ⟨w.heap.size+1+1+1+1,0,U⟩=S (Z Y 0):=by rw[T5 wX _ 0 _ _ _ (cS HX).rb];rfl
  have a7:wX.frozen? ⟨w.heap.size+1+1+1+1,0,U⟩=W9:=by simp[World.frozen?,(cS HX).rb]
  have A:=cT (cS HX).from
  have s5:(wX.setCell ⟨w.heap.size+1+1+1+1,0,U⟩ (Z Y (dj:Int))).cell? ⟨w.heap.size+1,0,U⟩=S (WV (S ⟨l,0,U⟩)):=by rw[T5 _ _ 0 _ _ _ (cS A).sb];rfl
  clear HX;go_upto_region 6 with fail;clear f0 r0 a7;generalize Xf _ _ _=w5 at A s5 ⊢;have ah:Hid ((tW w j E l da n cX FB every dj R p0 k0 F.all).I w5 Q O v T 0):=⟨(cS m).below (cS A).lJ,(cS A).fb,(cS A).eb,(cS A).sb,(cS A).rb,by have:=(cS m).pw.lt;show w.heap.size+1+1+1+1≠_;omega⟩
  have aA:=cT (xK j E l da n cX nn b Q R O v T w5 (cS ah).sf (λx hx=>by have:=(cS HT) x hx;omega) (cS aO) (by omega) (by omega) (cS bs));have aB:Hid (Sm (eh Q (dR Q.fD ((T.drop (Xg T-cX)).map (·.1)))).2 nn b):=(gB.tH (λo ho=>(pH _ _ o ho).1) (cS aO)).all;unfold DJ at hO;obtain⟨rc,a8⟩:∃q,Hid (eh Q (dR Q.fD ((T.drop (Xg T-cX)).map (·.1)))=q):=⟨_,rfl⟩
  rw[cS a8] at aA aB hO;go_wp2_with fail;refine(cS aA).mono ?_;rintro e w6 ⟨k1,k2,O6,v6,T6,hG,aI,aq⟩;obtain⟨aJ,ay⟩:=(cS ah).next aI aq
  have ai:=cT aJ;have X:Hid (fj w (OR O l v (w.heap.size+1+1+1+1)) w6 (OR O6 l v6 (w.heap.size+1+1+1+1))):=(fj.below _ (cS A).lJ).trans ay;have s:∀{k:Nat} {c:Array WS} {t:TypeId},w5.heap[k]?=S (D c t (0,0))->(t∉iH/\t≠113/\t≠181)->w6.heap[k]?=S (D c t (0,0)):=λ{k c t} hk ht=>(aq.far (cV hk) (je (cS ah).sf hk ht)).1.trans hk
  have aK:=cT (s (cS A).jb (by decide));have aC:=cT (s (cS A).xb (by decide));have ar:=cT (s (cS A).gb (by decide));have aL:Hid (w6.ownsRow 0 104 4 (J p0 n k0) n (jg F.val F.fC F.iI F.jf n)):=Dk.dv (cS A).row aq.kept (λg hg hq=>CV (cS ah).sf (cS A).row (by decide) g hg hq);clear aJ ay aI aq s A ah aA s5;by_cases hz:rc.1=0
  .obtain rfl:=k1 hz;have aD:T6=T.drop (Xg T-cX):=hG hz;clear k1 k2 hG;rw[TZ (by rw[hz];simp),<-aD] at hO;obtain⟨r,aa⟩:∃q,Hid (rz P Es cY every cX da n dj ((cY-dj)+1) dj F (T6.map (·.1)) 0 rc.2=q):=⟨_,rfl⟩
   rw[cS aa] at hO;have au:=cT (OS (tW w j E l da n cX FB every dj R p0 k0 F.all) B pf kf pe ke cY P Es p0 k0 F z f r nn b rc.2 O6 v6 T6 w6 (cS ai) (λW O' v' hs=>cS aX W O' v' (w.heap.size+1+1+1+1) (by omega) ((cS X).trans hs)) (cS aL) (cS br) (cS HJ) hl aS bg aT bh (cS aB) bk ad bn hm (λx hx=>(cS HT) x (by rw[aD] at hx;exact VC hx)) (by show (Xg T6)<=cX;rw[aD,Vb];omega) (cS aa));obtain⟨j0,j1,j2,j3⟩:=fK (B:=B) (pf:=pf) (n:=n) (kf:=kf) (pe:=pe) (ke:=ke) (cY:=cY) (cS aK);obtain⟨f0,f1,f2,_⟩:=dQ (cS ai).fb;unfold gy dV at au;dsimp only[tW] at au f0 f1 f2;go_wp2_with fail;refine(cS au).mono ?_;rintro e L ⟨m1,m2,O7,v7,T7,aM,ab⟩;dsimp only[tW] at ab;have aj:∀{k:Nat} {c:Array WS} {t:TypeId},w6.heap[k]?=S (D c t (0,0))->((t∉iH/\t≠113/\t≠181)/\t≠43)->L.heap[k]?=S (D c t (0,0)):=λ{k c t} hk ht=>(ab.far (cV hk) ((cS ai).not hk ht)).1.trans hk
   have C:=cT (aj (cS aC) (by decide));have av:=cT (aj (cS ar) (by decide));have aw:=cT aM;have ak:=cT ((cS X).trans ab);have ba:6<w.heap.size:=(cS m).pw.lt;clear aj aM ab aC ar aK aL au aB j0 j1 j2 j3 f0 f1 f2;by_cases an:r.e=0
   .obtain⟨sl,rfl,M⟩:=m1 an;obtain⟨q,V,rfl⟩:=lO M;have aN:=cT (Rd.lA M (cS X).kept.size);have x0:L.cell? ⟨w.heap.size+1+1+1,0,U⟩=S (Z .u8 0):=by rw[T5 L _ 0 _ _ _ (cS C)];rfl
    have x1:L.cell? ⟨w.heap.size+1+1+1,1,U⟩=S (Z Y 0):=by rw[T5 L _ 1 _ _ _ (cS C)];rfl
    have x2:L.cell? ⟨w.heap.size+1+1+1,2,U⟩=S (Z Y 0):=by rw[T5 L _ 2 _ _ _ (cS C)];rfl
    have x3:L.cell? ⟨w.heap.size+1+1+1,3,U⟩=S (J U 0 0):=by rw[T5 L _ 3 _ _ _ (cS C)];rfl
    have y0:L.frozen? ⟨w.heap.size+1+1+1,0,U⟩=W9:=by simp[World.frozen?,(cS C)]
    have y1:L.frozen? ⟨w.heap.size+1+1+1,1,U⟩=W9:=by simp[World.frozen?,(cS C)]
    have y2:L.frozen? ⟨w.heap.size+1+1+1,2,U⟩=W9:=by simp[World.frozen?,(cS C)]
    have y3:L.frozen? ⟨w.heap.size+1+1+1,3,U⟩=W9:=by simp[World.frozen?,(cS C)]
    have H8:Hid (((((L.setCell ⟨w.heap.size+1+1+1,0,U⟩ (Z .u8 (r.res.outcome:Int))).setCell ⟨w.heap.size+1+1+1,1,U⟩ (Z Y (r.res.step:Int))).setCell ⟨w.heap.size+1+1+1,2,U⟩ (Z Y (r.res.dt:Int))).setCell ⟨w.heap.size+1+1+1,3,U⟩ (J q (Xg r.res.dA) V)).heap[w.heap.size+1+1+1]?=S (D #[Z .u8 (r.res.outcome:Int),Z Y (r.res.step:Int),Z Y (r.res.dt:Int),J q (Xg r.res.dA) V] 32 (0,0))/\(tW w j E l da n cX FB every dj R p0 k0 F.all).I ((((L.setCell ⟨w.heap.size+1+1+1,0,U⟩ (Z .u8 (r.res.outcome:Int))).setCell ⟨w.heap.size+1+1+1,1,U⟩ (Z Y (r.res.step:Int))).setCell ⟨w.heap.size+1+1+1,2,U⟩ (Z Y (r.res.dt:Int))).setCell ⟨w.heap.size+1+1+1,3,U⟩ (J q (Xg r.res.dA) V)) r.R O7 v7 T7 r.saved/\((((L.setCell ⟨w.heap.size+1+1+1,0,U⟩ (Z .u8 (r.res.outcome:Int))).setCell ⟨w.heap.size+1+1+1,1,U⟩ (Z Y (r.res.step:Int))).setCell ⟨w.heap.size+1+1+1,2,U⟩ (Z Y (r.res.dt:Int))).setCell ⟨w.heap.size+1+1+1,3,U⟩ (J q (Xg r.res.dA) V)).heap[w.heap.size+1+1+1+1+1]?=S (D #[Z Y 0] 33 (0,0))/\fj w (OR O l v (w.heap.size+1+1+1+1)) ((((L.setCell ⟨w.heap.size+1+1+1,0,U⟩ (Z .u8 (r.res.outcome:Int))).setCell ⟨w.heap.size+1+1+1,1,U⟩ (Z Y (r.res.step:Int))).setCell ⟨w.heap.size+1+1+1,2,U⟩ (Z Y (r.res.dt:Int))).setCell ⟨w.heap.size+1+1+1,3,U⟩ (J q (Xg r.res.dA) V)) (OR O7 l v7 (w.heap.size+1+1+1+1))/\((((L.setCell ⟨w.heap.size+1+1+1,0,U⟩ (Z .u8 (r.res.outcome:Int))).setCell ⟨w.heap.size+1+1+1,1,U⟩ (Z Y (r.res.step:Int))).setCell ⟨w.heap.size+1+1+1,2,U⟩ (Z Y (r.res.dt:Int))).setCell ⟨w.heap.size+1+1+1,3,U⟩ (J q (Xg r.res.dA) V)).ownsRow w.heap.size 2 1 (J q (Xg r.res.dA) V) (Xg r.res.dA) (r.res.dA.map (Z Y))):=by
     have b1:=Ue L _ 0 _ _ (Z .u8 (r.res.outcome:Int)) (cS C);have b2:=Ue _ _ 1 _ _ (Z Y (r.res.step:Int)) b1;have b3:=Ue _ _ 2 _ _ (Z Y (r.res.dt:Int)) b2;have b4:=Ue _ _ 3 _ _ (J q (Xg r.res.dA) V) b3;have c1:=(cS aw).zs (cS C) (by decide) (by omega) 0 (Z .u8 (r.res.outcome:Int));have c2:=c1.zs b1 (by decide) (by omega) 1 (Z Y (r.res.step:Int));have c3:=c2.zs b2 (by decide) (by omega) 2 (Z Y (r.res.dt:Int));have c4:=c3.zs b3 (by decide) (by omega) 3 (J q (Xg r.res.dA) V);refine⟨by rw[b4];rfl,c4,?_,lR (lR (lR (lR (cS ak) (by omega) 0 _) (by omega) 1 _) (by omega) 2 _) (by omega) 3 _,?_⟩
     .rw[Uj _ _ _ _ (show w.heap.size+1+1+1+1+1≠w.heap.size+1+1+1 by omega),Uj _ _ _ _ (show w.heap.size+1+1+1+1+1≠w.heap.size+1+1+1 by omega),Uj _ _ _ _ (show w.heap.size+1+1+1+1+1≠w.heap.size+1+1+1 by omega),Uj _ _ _ _ (show w.heap.size+1+1+1+1+1≠w.heap.size+1+1+1 by omega)];exact cS av
     .have ae:∀(W:WR) (i:Nat) (x:WS) (cs:Array WS),W.heap[w.heap.size+1+1+1]?=S (D cs 32 (0,0))->W.ownsRow w.heap.size 2 1 (J q (Xg r.res.dA) V) (Xg r.res.dA) (r.res.dA.map (Z Y))->(W.setCell ⟨w.heap.size+1+1+1,i,U⟩ x).ownsRow w.heap.size 2 1 (J q (Xg r.res.dA) V) (Xg r.res.dA) (r.res.dA.map (Z Y)):=λW i x cs hA hx =>
       U1 hx (λe=>by obtain⟨y,hy,_⟩:=dh hx e;exact de hy hA (by decide) rfl) _
      exact ae _ 3 _ _ b3 (ae _ 2 _ _ b2 (ae _ 1 _ _ b1 (ae _ 0 _ _ (cS C) (cS aN))))
    clear C av aw ak aN M m1 m2;go_upto_region 8 with fail;clear x0 x1 x2 x3 y0 y1 y2 y3;generalize Xf _ _ _=u at H8 ⊢;have G:=(cS H8).1;have N:=(cS H8).2.1.rb;have ao:=(cS H8).2.2.1;dsimp only[tW] at N;have x0:u.cell? ⟨w.heap.size+1+1+1,0,U⟩=S (Z .u8 (r.res.outcome:Int)):=by rw[T5 u _ 0 _ _ _ G];rfl
    have x1:u.cell? ⟨w.heap.size+1+1+1,1,U⟩=S (Z Y (r.res.step:Int)):=by rw[T5 u _ 1 _ _ _ G];rfl
    have x2:u.cell? ⟨w.heap.size+1+1+1,2,U⟩=S (Z Y (r.res.dt:Int)):=by rw[T5 u _ 2 _ _ _ G];rfl
    have x3:u.cell? ⟨w.heap.size+1+1+1,3,U⟩=S (J q (Xg r.res.dA) V):=by rw[T5 u _ 3 _ _ _ G];rfl
    have x4:u.cell? ⟨w.heap.size+1+1+1+1,0,U⟩=S (Z Y (dj:Int)):=by rw[T5 u _ 0 _ _ _ N];rfl
    have x5:u.cell? ⟨w.heap.size+1+1+1+1,1,U⟩=S (Z Y (r.saved:Int)):=by rw[T5 u _ 1 _ _ _ N];rfl
    have x6:u.cell? ⟨w.heap.size+1+1+1+1+1,0,U⟩=S (Z Y 0):=by rw[T5 u _ 0 _ _ _ ao];rfl
    have y0:∀i,u.frozen? ⟨w.heap.size+1+1+1,i,U⟩=W9:=λi=>by simp[World.frozen?,G]
    have y1:∀i,u.frozen? ⟨w.heap.size+1+1+1+1,i,U⟩=W9:=λi=>by simp[World.frozen?,N]
    have y2:∀i,u.frozen? ⟨w.heap.size+1+1+1+1+1,i,U⟩=W9:=λi=>by simp[World.frozen?,ao]
    have bK:u.drew.setCell ⟨w.heap.size+1+1+1,0,U⟩ (Z .u8 (r.res.outcome:Int))=u.drew:=gd (W:=u.drew) G rfl;have bL:u.drew.setCell ⟨w.heap.size+1+1+1,1,U⟩ (Z Y (r.res.step:Int))=u.drew:=gd (W:=u.drew) G rfl;have bM:u.drew.setCell ⟨w.heap.size+1+1+1,2,U⟩ (Z Y (r.res.dt:Int))=u.drew:=gd (W:=u.drew) G rfl;have bN:u.drew.setCell ⟨w.heap.size+1+1+1,3,U⟩ (J q (Xg r.res.dA) V)=u.drew:=gd (W:=u.drew) G rfl;have bO:u.drew.setCell ⟨w.heap.size+1+1+1+1,0,U⟩ (Z Y (dj:Int))=u.drew:=gd (W:=u.drew) N rfl;have bP:u.drew.setCell ⟨w.heap.size+1+1+1+1,1,U⟩ (Z Y (r.saved:Int))=u.drew:=gd (W:=u.drew) N rfl;have bQ:u.drew.setCell ⟨w.heap.size+1+1+1+1+1,0,U⟩ (Z Y 0)=u.drew:=gd (W:=u.drew) ao rfl;have HF:Hid (PP (.returned (lS r.res.outcome r.res.step r.res.dt q (Xg r.res.dA) V dj r.saved 0)) u.drew):=by
     show PP _ _
     rw[<-cS hO];obtain⟨g1,g2,g3,g4,g5⟩:=cS H8;refine⟨⟨q,Xg r.res.dA,V,by rw[an],?_⟩,O7,v7,T7,g2.sf.below WO.drew,(yh g4 (by omega)).trans (fj.below _ WO.drew)⟩;exact dd g5 WO.drew
    have bc:Hid (Rn u.drew (w.heap.size+1+1+1) (w.heap.size+1+1+1+1) (w.heap.size+1+1+1+1+1) r.res.outcome r.res.step r.res.dt q (Xg r.res.dA) V dj r.saved 0):=⟨G,N,ao⟩
    clear H8 G N ao
    go_region
    all_goals
     go_wp2;exact Ay (XB:=w.heap.size+1+1+1) (RB:=w.heap.size+1+1+1+1) (GB:=w.heap.size+1+1+1+1+1) (by rfl) (by rfl) (by rfl) (cS bc) (cS HF)
   .obtain rfl:=m2 an;refine pC (XB:=w.heap.size+1+1+1) (RB:=w.heap.size+1+1+1+1) (GB:=w.heap.size+1+1+1+1+1) (by rfl) (by rfl) (by rfl) ⟨cS C,(cS aw).rb,cS av⟩ (λo=>?_);rw[<-cS hO];obtain⟨g1,g2⟩:=(cS aw).leave (cS av) (by decide) (by omega) (cS ak) (by omega) (Z Y r.e) o;refine⟨⟨U,0,0,?_,?_⟩,O7,v7,T7,g1.sf,yh g2 (by omega)⟩
    .have hn:=vu (cS aa) an;rw[hn];rfl
    .have hn:=vu (cS aa) an;rw[hn];exact Uw _ _ _ _
  .obtain rfl:=k2 hz;have ba:6<w.heap.size:=(cS m).pw.lt;refine pC (XB:=w.heap.size+1+1+1) (RB:=w.heap.size+1+1+1+1) (GB:=w.heap.size+1+1+1+1+1) (by rfl) (by rfl) (by rfl) ⟨cS aC,(cS ai).rb,cS ar⟩ (λo=>?_);rw[<-cS hO,T0 hz];obtain⟨g1,g2⟩:=(cS ai).leave (cS ar) (by decide) (by omega) (cS X) (by omega) (Z Y rc.1) o;exact⟨⟨U,0,0,rfl,Uw _ _ _ _⟩,O6,v6,T6,g1.sf,yh g2 (by omega)⟩
 .obtain⟨q1,q2,q3⟩:=bI;obtain⟨xp,xn,xc,xa⟩:=x;dsimp only at q1 q2 q3;have bR:=q1.symm;subst bR;have bS:xa=F.all:=by rw[aP];exact q2
  subst bS;have bG:w.ownsRow 0 104 4 (J xp n xc) n (jg F.val F.fC F.iI F.jf n):=by rw[aP];exact q3
  clear q2 q3;have bU:=cT aP;clear aP;have az:=cT (Cb l j da n cX v T' dj ⟨xp,n,xc,F.all⟩ W0 (by have:=((cS m).below af).sh;rw[bB] at this;exact this));unfold Rt.lj at az;dsimp only at az;refine(cS az).mono ?_;rintro e w1 ⟨rfl,ad⟩;have hA:∀o,WQ W0 (w1.alloc o):=λo=>ad.trans (((T4 _ w1).alloc WN o).mono ad.size)
  go_upto_region 5 with fail;generalize ax:Xe _ _=wX;have hX:=RX (wX:=wX) (FB:=w1.heap.size) (p0:=xp) (k0:=xc) (by rw[<-ax];exact hA _) (by rw[<-ax];exact T9 w1 _) (by have:=ad.size;have:=af.size;omega) (dd (dd bG af) (show WQ W0 wX by rw[<-ax];exact hA _));obtain⟨FB,aH⟩:∃q,w1.heap.size=q:=⟨_,rfl⟩
  rw[aH] at hX ⊢;have HX:=cT hX;clear hX RX a1 a2 a3 a4 a5 a6 af bw ad hA ax az aH bG bB;have f0:wX.cell? ⟨FB,0,U⟩=S (Z Y (dj:Int)):=by rw[T5 wX _ 0 _ _ _ (cS HX).fb];rfl
  have r0:wX.cell? ⟨w.heap.size+1+1+1+1,0,U⟩=S (Z Y 0):=by rw[T5 wX _ 0 _ _ _ (cS HX).rb];rfl
  have a7:wX.frozen? ⟨w.heap.size+1+1+1+1,0,U⟩=W9:=by simp[World.frozen?,(cS HX).rb]
  have A:=cT (cS HX).from
  have s5:(wX.setCell ⟨w.heap.size+1+1+1+1,0,U⟩ (Z Y (dj:Int))).cell? ⟨w.heap.size+1,0,U⟩=S (WV (S ⟨l,0,U⟩)):=by rw[T5 _ _ 0 _ _ _ (cS A).sb];rfl
  clear HX;go_upto_region 6 with fail;clear f0 r0 a7;generalize Xf _ _ _=w5 at A s5 ⊢;have ah:Hid ((tW w j E l da n cX FB every dj R xp xc F.all).I w5 Q O v T 0):=⟨(cS m).below (cS A).lJ,(cS A).fb,(cS A).eb,(cS A).sb,(cS A).rb,by have:=(cS m).pw.lt;show w.heap.size+1+1+1+1≠_;omega⟩
  have aA:=cT (xK j E l da n cX nn b Q R O v T w5 (cS ah).sf (λx hx=>by have:=(cS HT) x hx;omega) (cS aO) (by omega) (by omega) (cS bs));have aB:Hid (Sm (eh Q (dR Q.fD ((T.drop (Xg T-cX)).map (·.1)))).2 nn b):=(gB.tH (λo ho=>(pH _ _ o ho).1) (cS aO)).all;unfold DJ at hO;obtain⟨rc,a8⟩:∃q,Hid (eh Q (dR Q.fD ((T.drop (Xg T-cX)).map (·.1)))=q):=⟨_,rfl⟩
  rw[cS a8] at aA aB hO;go_wp2_with fail;refine(cS aA).mono ?_;rintro e w6 ⟨k1,k2,O6,v6,T6,hG,aI,aq⟩;obtain⟨aJ,ay⟩:=(cS ah).next aI aq
  have ai:=cT aJ;have X:Hid (fj w (OR O l v (w.heap.size+1+1+1+1)) w6 (OR O6 l v6 (w.heap.size+1+1+1+1))):=(fj.below _ (cS A).lJ).trans ay;have s:∀{k:Nat} {c:Array WS} {t:TypeId},w5.heap[k]?=S (D c t (0,0))->(t∉iH/\t≠113/\t≠181)->w6.heap[k]?=S (D c t (0,0)):=λ{k c t} hk ht=>(aq.far (cV hk) (je (cS ah).sf hk ht)).1.trans hk
  have aK:=cT (s (cS A).jb (by decide));have aC:=cT (s (cS A).xb (by decide));have ar:=cT (s (cS A).gb (by decide));have aL:Hid (w6.ownsRow 0 104 4 (J xp n xc) n (jg F.val F.fC F.iI F.jf n)):=Dk.dv (cS A).row aq.kept (λg hg hq=>CV (cS ah).sf (cS A).row (by decide) g hg hq);clear aJ ay aI aq s A ah aA s5;by_cases hz:rc.1=0
  .obtain rfl:=k1 hz;have aD:T6=T.drop (Xg T-cX):=hG hz;clear k1 k2 hG;rw[TZ (by rw[hz];simp),<-aD] at hO;obtain⟨r,aa⟩:∃q,Hid (rz P Es cY every cX da n dj ((cY-dj)+1) dj F (T6.map (·.1)) 0 rc.2=q):=⟨_,rfl⟩
   rw[cS aa] at hO;have au:=cT (OS (tW w j E l da n cX FB every dj R xp xc F.all) B pf kf pe ke cY P Es xp xc F z f r nn b rc.2 O6 v6 T6 w6 (cS ai) (λW O' v' hs=>cS aX W O' v' (w.heap.size+1+1+1+1) (by omega) ((cS X).trans hs)) (cS aL) (cS br) (cS HJ) hl aS bg aT bh (cS aB) bk ad bn hm (λx hx=>(cS HT) x (by rw[aD] at hx;exact VC hx)) (by show (Xg T6)<=cX;rw[aD,Vb];omega) (cS aa));obtain⟨j0,j1,j2,j3⟩:=fK (B:=B) (pf:=pf) (n:=n) (kf:=kf) (pe:=pe) (ke:=ke) (cY:=cY) (cS aK);obtain⟨f0,f1,f2,_⟩:=dQ (cS ai).fb;unfold gy dV at au;dsimp only[tW] at au f0 f1 f2;go_wp2_with fail;refine(cS au).mono ?_;rintro e L ⟨m1,m2,O7,v7,T7,aM,ab⟩;dsimp only[tW] at ab;have aj:∀{k:Nat} {c:Array WS} {t:TypeId},w6.heap[k]?=S (D c t (0,0))->((t∉iH/\t≠113/\t≠181)/\t≠43)->L.heap[k]?=S (D c t (0,0)):=λ{k c t} hk ht=>(ab.far (cV hk) ((cS ai).not hk ht)).1.trans hk
   have C:=cT (aj (cS aC) (by decide));have av:=cT (aj (cS ar) (by decide));have aw:=cT aM;have ak:=cT ((cS X).trans ab);have ba:6<w.heap.size:=(cS m).pw.lt;clear aj aM ab aC ar aK aL au aB j0 j1 j2 j3 f0 f1 f2;by_cases an:r.e=0
   .obtain⟨sl,rfl,M⟩:=m1 an;obtain⟨q,V,rfl⟩:=lO M;have aN:=cT (Rd.lA M (cS X).kept.size);have x0:L.cell? ⟨w.heap.size+1+1+1,0,U⟩=S (Z .u8 0):=by rw[T5 L _ 0 _ _ _ (cS C)];rfl
    have x1:L.cell? ⟨w.heap.size+1+1+1,1,U⟩=S (Z Y 0):=by rw[T5 L _ 1 _ _ _ (cS C)];rfl
    have x2:L.cell? ⟨w.heap.size+1+1+1,2,U⟩=S (Z Y 0):=by rw[T5 L _ 2 _ _ _ (cS C)];rfl
    have x3:L.cell? ⟨w.heap.size+1+1+1,3,U⟩=S (J U 0 0):=by rw[T5 L _ 3 _ _ _ (cS C)];rfl
    have y0:L.frozen? ⟨w.heap.size+1+1+1,0,U⟩=W9:=by simp[World.frozen?,(cS C)]
    have y1:L.frozen? ⟨w.heap.size+1+1+1,1,U⟩=W9:=by simp[World.frozen?,(cS C)]
    have y2:L.frozen? ⟨w.heap.size+1+1+1,2,U⟩=W9:=by simp[World.frozen?,(cS C)]
    have y3:L.frozen? ⟨w.heap.size+1+1+1,3,U⟩=W9:=by simp[World.frozen?,(cS C)]
    have H8:Hid (((((L.setCell ⟨w.heap.size+1+1+1,0,U⟩ (Z .u8 (r.res.outcome:Int))).setCell ⟨w.heap.size+1+1+1,1,U⟩ (Z Y (r.res.step:Int))).setCell ⟨w.heap.size+1+1+1,2,U⟩ (Z Y (r.res.dt:Int))).setCell ⟨w.heap.size+1+1+1,3,U⟩ (J q (Xg r.res.dA) V)).heap[w.heap.size+1+1+1]?=S (D #[Z .u8 (r.res.outcome:Int),Z Y (r.res.step:Int),Z Y (r.res.dt:Int),J q (Xg r.res.dA) V] 32 (0,0))/\(tW w j E l da n cX FB every dj R xp xc F.all).I ((((L.setCell ⟨w.heap.size+1+1+1,0,U⟩ (Z .u8 (r.res.outcome:Int))).setCell ⟨w.heap.size+1+1+1,1,U⟩ (Z Y (r.res.step:Int))).setCell ⟨w.heap.size+1+1+1,2,U⟩ (Z Y (r.res.dt:Int))).setCell ⟨w.heap.size+1+1+1,3,U⟩ (J q (Xg r.res.dA) V)) r.R O7 v7 T7 r.saved/\((((L.setCell ⟨w.heap.size+1+1+1,0,U⟩ (Z .u8 (r.res.outcome:Int))).setCell ⟨w.heap.size+1+1+1,1,U⟩ (Z Y (r.res.step:Int))).setCell ⟨w.heap.size+1+1+1,2,U⟩ (Z Y (r.res.dt:Int))).setCell ⟨w.heap.size+1+1+1,3,U⟩ (J q (Xg r.res.dA) V)).heap[w.heap.size+1+1+1+1+1]?=S (D #[Z Y 0] 33 (0,0))/\fj w (OR O l v (w.heap.size+1+1+1+1)) ((((L.setCell ⟨w.heap.size+1+1+1,0,U⟩ (Z .u8 (r.res.outcome:Int))).setCell ⟨w.heap.size+1+1+1,1,U⟩ (Z Y (r.res.step:Int))).setCell ⟨w.heap.size+1+1+1,2,U⟩ (Z Y (r.res.dt:Int))).setCell ⟨w.heap.size+1+1+1,3,U⟩ (J q (Xg r.res.dA) V)) (OR O7 l v7 (w.heap.size+1+1+1+1))/\((((L.setCell ⟨w.heap.size+1+1+1,0,U⟩ (Z .u8 (r.res.outcome:Int))).setCell ⟨w.heap.size+1+1+1,1,U⟩ (Z Y (r.res.step:Int))).setCell ⟨w.heap.size+1+1+1,2,U⟩ (Z Y (r.res.dt:Int))).setCell ⟨w.heap.size+1+1+1,3,U⟩ (J q (Xg r.res.dA) V)).ownsRow w.heap.size 2 1 (J q (Xg r.res.dA) V) (Xg r.res.dA) (r.res.dA.map (Z Y))):=by
     have b1:=Ue L _ 0 _ _ (Z .u8 (r.res.outcome:Int)) (cS C);have b2:=Ue _ _ 1 _ _ (Z Y (r.res.step:Int)) b1;have b3:=Ue _ _ 2 _ _ (Z Y (r.res.dt:Int)) b2;have b4:=Ue _ _ 3 _ _ (J q (Xg r.res.dA) V) b3;have c1:=(cS aw).zs (cS C) (by decide) (by omega) 0 (Z .u8 (r.res.outcome:Int));have c2:=c1.zs b1 (by decide) (by omega) 1 (Z Y (r.res.step:Int));have c3:=c2.zs b2 (by decide) (by omega) 2 (Z Y (r.res.dt:Int));have c4:=c3.zs b3 (by decide) (by omega) 3 (J q (Xg r.res.dA) V);refine⟨by rw[b4];rfl,c4,?_,lR (lR (lR (lR (cS ak) (by omega) 0 _) (by omega) 1 _) (by omega) 2 _) (by omega) 3 _,?_⟩
     .rw[Uj _ _ _ _ (show w.heap.size+1+1+1+1+1≠w.heap.size+1+1+1 by omega),Uj _ _ _ _ (show w.heap.size+1+1+1+1+1≠w.heap.size+1+1+1 by omega),Uj _ _ _ _ (show w.heap.size+1+1+1+1+1≠w.heap.size+1+1+1 by omega),Uj _ _ _ _ (show w.heap.size+1+1+1+1+1≠w.heap.size+1+1+1 by omega)];exact cS av
     .have ae:∀(W:WR) (i:Nat) (x:WS) (cs:Array WS),W.heap[w.heap.size+1+1+1]?=S (D cs 32 (0,0))->W.ownsRow w.heap.size 2 1 (J q (Xg r.res.dA) V) (Xg r.res.dA) (r.res.dA.map (Z Y))->(W.setCell ⟨w.heap.size+1+1+1,i,U⟩ x).ownsRow w.heap.size 2 1 (J q (Xg r.res.dA) V) (Xg r.res.dA) (r.res.dA.map (Z Y)):=λW i x cs hA hx =>
       U1 hx (λe=>by obtain⟨y,hy,_⟩:=dh hx e;exact de hy hA (by decide) rfl) _
      exact ae _ 3 _ _ b3 (ae _ 2 _ _ b2 (ae _ 1 _ _ b1 (ae _ 0 _ _ (cS C) (cS aN))))
    clear C av aw ak aN M m1 m2;go_upto_region 8 with fail;clear x0 x1 x2 x3 y0 y1 y2 y3;generalize Xf _ _ _=u at H8 ⊢;have G:=(cS H8).1;have N:=(cS H8).2.1.rb;have ao:=(cS H8).2.2.1;dsimp only[tW] at N;have x0:u.cell? ⟨w.heap.size+1+1+1,0,U⟩=S (Z .u8 (r.res.outcome:Int)):=by rw[T5 u _ 0 _ _ _ G];rfl
    have x1:u.cell? ⟨w.heap.size+1+1+1,1,U⟩=S (Z Y (r.res.step:Int)):=by rw[T5 u _ 1 _ _ _ G];rfl
    have x2:u.cell? ⟨w.heap.size+1+1+1,2,U⟩=S (Z Y (r.res.dt:Int)):=by rw[T5 u _ 2 _ _ _ G];rfl
    have x3:u.cell? ⟨w.heap.size+1+1+1,3,U⟩=S (J q (Xg r.res.dA) V):=by rw[T5 u _ 3 _ _ _ G];rfl
    have x4:u.cell? ⟨w.heap.size+1+1+1+1,0,U⟩=S (Z Y (dj:Int)):=by rw[T5 u _ 0 _ _ _ N];rfl
    have x5:u.cell? ⟨w.heap.size+1+1+1+1,1,U⟩=S (Z Y (r.saved:Int)):=by rw[T5 u _ 1 _ _ _ N];rfl
    have x6:u.cell? ⟨w.heap.size+1+1+1+1+1,0,U⟩=S (Z Y 0):=by rw[T5 u _ 0 _ _ _ ao];rfl
    have y0:∀i,u.frozen? ⟨w.heap.size+1+1+1,i,U⟩=W9:=λi=>by simp[World.frozen?,G]
    have y1:∀i,u.frozen? ⟨w.heap.size+1+1+1+1,i,U⟩=W9:=λi=>by simp[World.frozen?,N]
    have y2:∀i,u.frozen? ⟨w.heap.size+1+1+1+1+1,i,U⟩=W9:=λi=>by simp[World.frozen?,ao]
    have bK:u.drew.setCell ⟨w.heap.size+1+1+1,0,U⟩ (Z .u8 (r.res.outcome:Int))=u.drew:=gd (W:=u.drew) G rfl;have bL:u.drew.setCell ⟨w.heap.size+1+1+1,1,U⟩ (Z Y (r.res.step:Int))=u.drew:=gd (W:=u.drew) G rfl;have bM:u.drew.setCell ⟨w.heap.size+1+1+1,2,U⟩ (Z Y (r.res.dt:Int))=u.drew:=gd (W:=u.drew) G rfl;have bN:u.drew.setCell ⟨w.heap.size+1+1+1,3,U⟩ (J q (Xg r.res.dA) V)=u.drew:=gd (W:=u.drew) G rfl;have bO:u.drew.setCell ⟨w.heap.size+1+1+1+1,0,U⟩ (Z Y (dj:Int))=u.drew:=gd (W:=u.drew) N rfl;have bP:u.drew.setCell ⟨w.heap.size+1+1+1+1,1,U⟩ (Z Y (r.saved:Int))=u.drew:=gd (W:=u.drew) N rfl;have bQ:u.drew.setCell ⟨w.heap.size+1+1+1+1+1,0,U⟩ (Z Y 0)=u.drew:=gd (W:=u.drew) ao rfl;have HF:Hid (PP (.returned (lS r.res.outcome r.res.step r.res.dt q (Xg r.res.dA) V dj r.saved 0)) u.drew):=by
     show PP _ _
     rw[<-cS hO];obtain⟨g1,g2,g3,g4,g5⟩:=cS H8;refine⟨⟨q,Xg r.res.dA,V,by rw[an],?_⟩,O7,v7,T7,g2.sf.below WO.drew,(yh g4 (by omega)).trans (fj.below _ WO.drew)⟩;exact dd g5 WO.drew
    have bc:Hid (Rn u.drew (w.heap.size+1+1+1) (w.heap.size+1+1+1+1) (w.heap.size+1+1+1+1+1) r.res.outcome r.res.step r.res.dt q (Xg r.res.dA) V dj r.saved 0):=⟨G,N,ao⟩
    clear H8 G N ao
    go_region
    all_goals
     go_wp2;exact Ay (XB:=w.heap.size+1+1+1) (RB:=w.heap.size+1+1+1+1) (GB:=w.heap.size+1+1+1+1+1) (by rfl) (by rfl) (by rfl) (cS bc) (cS HF)
   .obtain rfl:=m2 an;refine pC (XB:=w.heap.size+1+1+1) (RB:=w.heap.size+1+1+1+1) (GB:=w.heap.size+1+1+1+1+1) (by rfl) (by rfl) (by rfl) ⟨cS C,(cS aw).rb,cS av⟩ (λo=>?_);rw[<-cS hO];obtain⟨g1,g2⟩:=(cS aw).leave (cS av) (by decide) (by omega) (cS ak) (by omega) (Z Y r.e) o;refine⟨⟨U,0,0,?_,?_⟩,O7,v7,T7,g1.sf,yh g2 (by omega)⟩
    .have hn:=vu (cS aa) an;rw[hn];rfl
    .have hn:=vu (cS aa) an;rw[hn];exact Uw _ _ _ _
  .obtain rfl:=k2 hz;have ba:6<w.heap.size:=(cS m).pw.lt;refine pC (XB:=w.heap.size+1+1+1) (RB:=w.heap.size+1+1+1+1) (GB:=w.heap.size+1+1+1+1+1) (by rfl) (by rfl) (by rfl) ⟨cS aC,(cS ai).rb,cS ar⟩ (λo=>?_);rw[<-cS hO,T0 hz];obtain⟨g1,g2⟩:=(cS ai).leave (cS ar) (by decide) (by omega) (cS X) (by omega) (Z Y rc.1) o;exact⟨⟨U,0,0,rfl,Uw _ _ _ _⟩,O6,v6,T6,g1.sf,yh g2 (by omega)⟩
end Ru
end Go.Proofs.YtgkkdpegcieakaaGreatDoor
