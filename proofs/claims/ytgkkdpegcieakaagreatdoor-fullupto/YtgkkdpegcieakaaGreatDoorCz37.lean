import Derived.Test.YtgkkdpegcieakaaGreatDoorCz36
set_option linter.unusedVariables false
set_option linter.unusedSimpArgs false
set_option maxRecDepth 100000
set_option maxHeartbeats 16000000
namespace Go.Proofs.YtgkkdpegcieakaaGreatDoor
open Go.Proofs.Tryz
open Value renaming int→Z
open IntKind renaming i64→Y
open Go renaming World→TJ,Value→TK,Calls→TL
namespace Ru
open Go.RowKit
open Sp (Pg Ed Cfg nK quiet lK fh gu eT iN)
open Rd (Rk e0)
open Pk (jo Sm fy TP cZ cS cY)
open Dk (Kept)
structure P4 (w:TJ) (jc:Array TK) (S every n:Nat) (wX:TJ) (FB:Nat) (c0:Cfg) (de:Nat) (p0:Option Addr) (k0:Nat) (rep:Int):Prop where
 lL:TI w wX
 jb:wX.heap[w.heap.size]?=some (.cells jc 75 (0,0))
 sb:wX.heap[w.heap.size+1]?=some (.cells #[.pointer (some ⟨S,0,none⟩)] 85 (0,0))
 eb:wX.heap[w.heap.size+1+1]?=some (.cells #[Z Y (every:Int)] 3 (0,0))
 xb:wX.heap[w.heap.size+1+1+1]?=some (.cells #[Z .u8 0,Z Y 0,Z Y 0,.slice none 0 0] 32 (0,0))
 rb:wX.heap[w.heap.size+1+1+1+1]?=some (.cells #[Z Y rep,Z Y 0] 43 (0,0))
 gb:wX.heap[w.heap.size+1+1+1+1+1]?=some (.cells #[Z Y 0] 33 (0,0))
 fb:wX.heap[FB]?=some (.cells #[Z Y (de:Int),.slice p0 n k0,Z Y c0.all] 80 (0,0))
 fl:w.heap.size<=FB
 row:wX.ownsRow 0 104 4 (.slice p0 n k0) n (jm c0.val c0.fC c0.iK c0.je n)
variable {n every S de FB:Nat}{w:TJ}
theorem P4.from{jc:Array TK}{wX:TJ}{r:Cfg}{p0:Option Addr}{k0:Nat}{rep:Int}(h:P4 w jc S every n wX FB r de p0 k0 rep): P4 w jc S every n (wX.setCell ⟨w.heap.size+1+1+1+1,0,none⟩ (Z Y (de:Int))) FB r de p0 k0 (de:Int):=by
 have b:∀{j:Nat} {l:Array TK} {t:TypeId},wX.heap[j]?=some (.cells l t (0,0))->j≠w.heap.size+1+1+1+1->(wX.setCell ⟨w.heap.size+1+1+1+1,0,none⟩ (Z Y (de:Int))).heap[j]?=some (.cells l t (0,0)):=λ{j l t} u m=>by rw[cG wX _ _ j m];exact u
 refine⟨h.lL.setCell (p:=⟨w.heap.size+1+1+1+1,0,none⟩) (show w.heap.size<=w.heap.size+1+1+1+1 by omega) _,b h.jb (by omega),b h.sb (by omega),b h.eb (by omega),b h.xb (by omega),?_,b h.gb (by omega),b h.fb (cY h.fb h.rb (by decide)),h.fl,?_⟩
 .rw[cA wX _ 0 _ _ _ h.rb];rfl
 .refine v8 h.row (λe=>?_) _;obtain⟨y,z,_⟩:=cZ h.row e;exact cY z h.rb (by decide) rfl
variable {cX K:Nat}{t:TypeId}
theorem uu.yN{D E cU:Nat}{Q R:Rk}{O:Nat->Prop}{v:TK}{T:Sn.Tb}{e j RB sv:Nat}{y z:TK}(h:uu w D E S cX n cU Q R O v T FB e j RB every de sv y z){c:Array TK}(b:w.heap[K]?=some (.cells c t (0,0)))(ht:(t∉jd/\t≠113/\t≠181)/\t≠43/\t≠80/\t≠3/\t≠85)(l:K≠6)(i:Nat)(x:TK): uu (w.setCell ⟨K,i,none⟩ x) D E S cX n cU Q R O v T FB e j RB every de sv y z:=h.set (iZ h.sf b ht.1) ⟨cY b h.fb ht.2.2.1,cY b h.eb ht.2.2.2.1,cY b h.sb ht.2.2.2.2,cY b h.rb ht.2.1,l⟩ i x
theorem lX{e:TJ}{A B:Nat->Prop}(h:fy e A w B)(r:e.heap.size<=K)(i:Nat)(x:TK): fy e A (w.setCell ⟨K,i,none⟩ x) B:=by
 have b:Kept w (w.setCell ⟨K,i,none⟩ x) (λk=>k≠K):=(Kept.refl w _).setCell (λb=>b rfl) _;refine⟨⟨b.os.trans h.kept.os,b.tape.trans h.kept.tape,b.output.trans h.kept.output,cx h.kept.size b.size,λj l m=>?_⟩,h.own⟩;rw[b.block j (by have:=h.kept.size;omega) (by omega)];exact h.kept.block j l m
theorem uu.leave{b:TJ}{A:Nat->Prop}{D E cU:Nat}{Q R:Rk}{O:Nat->Prop}{v:TK}{T:Sn.Tb}{e j RB sv:Nat}{y z:TK}(h:uu w D E S cX n cU Q R O v T FB e j RB every de sv y z){c:Array TK}(m:w.heap[K]?=some (.cells c t (0,0)))(ht:(t∉jd/\t≠113/\t≠181)/\t≠43/\t≠80/\t≠3/\t≠85)(r:K≠6)(u:fy b A w (OR O S v RB))(B:b.heap.size<=K)(x:TK)(o:Obj):uu ((w.setCell ⟨K,0,none⟩ x).alloc o) D E S cX n cU Q R O v T FB e j RB every de sv y z/\fy b A ((w.setCell ⟨K,0,none⟩ x).alloc o) (OR O S v RB):=by
 have l:Below (w.setCell ⟨K,0,none⟩ x).heap.size (w.setCell ⟨K,0,none⟩ x) ((w.setCell ⟨K,0,none⟩ x).alloc o):=TH.alloc TG _;exact⟨(h.yN m ht r 0 x).below l,(lX u B 0 x).trans (fy.below _ l)⟩
theorem fX{W:TJ}{g i:Nat}{C:Array TK}{x:TK}(h:W.heap[g]?=some (.cells C t (0,0)))(m:C[i]?=some x): W.setCell ⟨g,i,none⟩ x=W:=by
 obtain⟨hi,b⟩:=cB.1 m;have r:C.setIfInBounds i x=C:=by rw[<-b];simp[Array.setIfInBounds,hi]
 have e:(W.setCell ⟨g,i,none⟩ x).heap=W.heap:=by
  apply Array.ext_getElem?;intro j;by_cases l:j=g
  .subst l;rw[cA W j i _ _ x h,r,h]
  .exact cG W _ _ j l
 unfold World.setCell at e ⊢;cases W;simp only at e ⊢;rw[e]
theorem vQ{P:Pg}{Es:List Ed}{cap keep:Nat}: ∀{g s sv:Nat} {c:Cfg} {K:List Nat} {Q:Rk} {b:Out},rz P Es cap every keep cX n de g s c K sv Q=b->b.e≠0->b.res=fU
 |0,s,sv,c,K,Q,b,h,j=>by rw[rz] at h;rw[<-h]
 |g+1,s,sv,c,K,Q,b,h,j=>by
  by_cases m:gu cap c s=0
  .obtain⟨_,B,r⟩:=Ey h m;have hS:∀{l:Nat} {u:List Nat} {y:Rk},NM P Es cap every keep cX n de g s l c u y (lK P Es c s n) b->b.res=fU:=λ{l u y} hh=>by
    unfold NM at hh;cases z:lK P Es c s n with
    |error i=>rw[z] at hh;rw[hh] at j;exact absurd rfl j
    |ok a=>rw[z] at hh;exact vQ hh j
   by_cases hd:de<s/\s%every=0
   .by_cases A:(tO Q c n s cX K keep sv).1=0
    .exact hS ((r hd).2 A)
    .rw[(r hd).1 A]
   .exact hS (B hd)
  .exact absurd (GH h rfl m).2.2.1 j
def tM(w:TJ)(D E S cX n cU FB every de:Nat)(R:Rk)(p0:Option Addr)(k0:Nat)(b:Int):Rc:=⟨D,E,S,cX,n,cU,FB,w.heap.size+1+1,w.heap.size+1,w.heap.size+1+1+1+1,every,de,R,.slice p0 n k0,Z Y b⟩
theorem BR(D E S cX n cU every cT B:Nat)(pf:Option Addr)(kf:Nat)(pe:Option Addr)(ke:Nat)(P:Pg)(Es:List Ed)(z f:Addr)(vs:List Int)(de:Nat)(u:Cfg)(nn b:Nat)(Q R:Rk)(O:Nat->Prop)(v:TK)(T:Sn.Tb)(w:TJ)(h:ow w D E S cX n cU Q R O v T)(bC:(T=[]/\de=0/\u=Sp.fS P vs)\/(∃T' x,T=T'++[(de,x)]/\u=fR Q.rd n de/\II w 0 Q.rd n (de,x)))(aM:∀W O' v' RB,w.heap.size<=RB->fy w (OR O S v RB) W (OR O' S v' RB)->jJ W B P/\kj W z f/\Gl W pe n Es)(hint:fF w Y pf vs)(aR:vs.length=n)(aZ:eT n u)(hj:iN P Es n)(hl:cT<=200)(aN:cX<4294967296)(a7:0<every)(aO:every<=50)(hT:∀x∈T,x.1<=de)(a8:de<=4294967295)(ba:Sm Q nn b)(bc:nn+2000<=1000000000)(V:1000<=b)(bd:b<=2097152)(hm:cU<=5)(bg:Q.nh=0):TL prog 32 #[.agg (dW B pf n kf pe ke cT),.pointer (some ⟨S,0,none⟩),Z Y (every:Int)] w (K6 D E S cX n cU de R O v (Ek P Es cT every cU cX n de u ((T.drop (T.length-cU)).map (·.1)) Q) w):=by
 generalize hO:K6 D E S cX n cU de R O v (Ek P Es cT every cU cX n de u ((T.drop (T.length-cU)).map (·.1)) Q) w=PP;replace hO:=cP hO;have bO:∀(fn:Go.Fn) (first cap:Array TK) (w:TJ),(Instr.makeFunc fn first cap).run prog w=.ok (.func fn first cap) w:=λ_ _ _ _=>rfl
 have bh:=hj.FR;have H:=cP h;have aS:=cP aM;have bj:=cP hint;have bk:=cP aZ;have HJ:=cP hj;have HT:=cP hT;have aJ:=cP ba;have bn:=cP bg;have bo:=cP (Lm w (dW B pf n kf pe ke cT) S every);clear h aM hint aZ hj hT ba bg;unfold dW at *
 go_enter_defers func32,ntmps32
 go_wp2_with fail;generalize hW:World.alloc (World.alloc _ _) _=W0;obtain⟨⟨a1,a2,a3,a4,a5,a6⟩,s,bp⟩:=cO bo W0 hW.symm;clear hW bo;have RX:∀{wX:TJ} {FB:Nat} {p0:Option Addr} {k0:Nat},TI W0 wX->wX.heap[FB]?=some (.cells #[Z Y (de:Int),.slice p0 n k0,Z Y u.all] 80 (0,0))->w.heap.size<=FB->wX.ownsRow 0 104 4 (.slice p0 n k0) n (jm u.val u.fC u.iK u.je n)->P4 w #[.pointer (some ⟨B,0,none⟩),.slice pf n kf,.slice pe n ke,Z Y (cT:Int)] S every n wX FB u de p0 k0 0:=λ{wX FB p0 k0} hb hf hl hr =>
  ⟨s.trans (hb.mono s.size),(hb.block _ (cS a1)).trans a1,(hb.block _ (cS a2)).trans a2,(hb.block _ (cS a3)).trans a3,(hb.block _ (cS a4)).trans a4,(hb.block _ (cS a5)).trans a5,(hb.block _ (cS a6)).trans a6,hf,hl,hr⟩
 rcases bC with ⟨bq,br,aT⟩|⟨T',x,bs,aK,bD⟩
 .have bu:(de:Int)=0:=by rw[br];rfl
  have au:=cP (zI S D cX n cU v W0 (by have:=((cO H).below s).sh;rw[bq] at this;exact this));refine(cO au).mono ?_;rintro e w1 ⟨rfl,V⟩;have bw:∀o,TI W0 (w1.alloc o):=λo=>V.trans (((cj _ w1).alloc TG o).mono V.size)
  have aA:W0.heap.size<=w1.heap.size:=V.size;have bE:w.heap.size<w1.heap.size:=by omega
  have b1:=(V.block _ (cS a1)).trans a1;obtain⟨j0,j1,j2,j3⟩:=fJ (B:=B) (pf:=pf) (n:=n) (kf:=kf) (pe:=pe) (ke:=ke) (cT:=cT) b1;have bx:Hid (∀W,TI W0 W->TL prog 26 #[.agg #[.pointer (some ⟨B,0,none⟩),.slice pf n kf,.slice pe n ke,Z Y (cT:Int)]] W (zX P vs n W)):=λW hW=>by
   have bA:=s.trans (hW.mono s.size);exact GW B pf n kf pe ke cT P vs W (cO aS W O v (w.heap.size+1+1+1+1) (by omega) (fy.below _ bA)).1 ((cO bj).below bA) aR bh
  clear b1;go_wp2_with fail;generalize aq:World.alloc _ _=w2;have az:TI W0 w2:=by rw[<-aq];exact bw _
  have aL:w2.heap[w1.heap.size]?=some (.cells #[Z Y 0,.slice none 0 0,Z Y 0] 80 (0,0)):=by rw[<-aq];exact ct w1 _
  refine(cO bx w2 az).mono ?_;rintro e w3 ⟨aU,sl,rfl,F⟩;obtain⟨p0,k0,rfl⟩:=lW F;have aa:=(aU.block _ (cS aL)).trans aL;have aB:w3.ownsRow 0 104 4 (.slice p0 n k0) n (jm u.val u.fC u.iK u.je n):=by
   have:=Dk.rL F;rw[aT,<-aR,<-G4];rw[<-aR] at this;exact this
  have aP:Sp.eN P.al=u.all:=by rw[aT];rfl
  rw[aP];have aQ:TI W0 w3:=az.trans (aU.mono az.size);obtain⟨FB,aC⟩:∃q,w1.heap.size=q:=⟨_,rfl⟩
  rw[aC] at aa aA aL ⊢;have g0:w3.cell? ⟨FB,0,none⟩=some (Z Y 0):=by rw[cn w3 _ 0 _ _ _ aa];rfl
  have g1:w3.cell? ⟨FB,1,none⟩=some (.slice none 0 0):=by rw[cn w3 _ 1 _ _ _ aa];rfl
  have g2:w3.cell? ⟨FB,2,none⟩=some (Z Y 0):=by rw[cn w3 _ 2 _ _ _ aa];rfl
  have i0:w3.frozen? ⟨FB,0,none⟩=false:=by simp[World.frozen?,aa]
  have i1:w3.frozen? ⟨FB,1,none⟩=false:=by simp[World.frozen?,aa]
  have i2:w3.frozen? ⟨FB,2,none⟩=false:=by simp[World.frozen?,aa]
  have HX:Hid (P4 w #[.pointer (some ⟨B,0,none⟩),.slice pf n kf,.slice pe n ke,Z Y (cT:Int)] S every n (((w3.setCell ⟨FB,0,none⟩ (Z Y 0)).setCell ⟨FB,1,none⟩ (.slice p0 n k0)).setCell ⟨FB,2,none⟩ (Z Y u.all)) FB u de p0 k0 0):=by
   refine RX (((aQ.setCell (p:=⟨FB,0,none⟩) aA _).setCell (p:=⟨FB,1,none⟩) aA _).setCell (p:=⟨FB,2,none⟩) aA _) ?_ (by have:=s.size;omega) ?_
   .have h1:=cA w3 FB 0 _ _ (Z Y 0) aa;have h2:=cA _ FB 1 _ _ (.slice p0 n k0) h1;have h3:=cA _ FB 2 _ _ (Z Y u.all) h2;rw[h3,bu];rfl
   .have X:∀(W:TJ) (i:Nat) (x:TK) (cs:Array TK),W.heap[FB]?=some (.cells cs 80 (0,0))->W.ownsRow 0 104 4 (.slice p0 n k0) n (jm u.val u.fC u.iK u.je n)->(W.setCell ⟨FB,i,none⟩ x).ownsRow 0 104 4 (.slice p0 n k0) n (jm u.val u.fC u.iK u.je n):=λW i x cs hA hx =>
     v8 hx (λe=>by obtain⟨y,hy,_⟩:=cZ hx e;exact cY hy hA (by decide) rfl) _
    have h1:=cA w3 FB 0 _ _ (Z Y 0) aa;have h2:=cA _ FB 1 _ _ (.slice p0 n k0) h1;exact X _ 2 _ _ h2 (X _ 1 _ _ h1 (X _ 0 _ _ aa aB))
  clear RX a1 a2 a3 a4 a5 a6 s bp V bw aq au aC az aL aa F aB aP aQ aU bx j0 j1 j2 j3 bE aA aT bu br bq;go_upto_region 5 with fail;clear g0 g1 g2 i0 i1 i2;generalize World.setCell _ _ _=wX at HX ⊢;have f0:wX.cell? ⟨FB,0,none⟩=some (Z Y (de:Int)):=by rw[cn wX _ 0 _ _ _ (cO HX).fb];rfl
  have r0:wX.cell? ⟨w.heap.size+1+1+1+1,0,none⟩=some (Z Y 0):=by rw[cn wX _ 0 _ _ _ (cO HX).rb];rfl
  have aV:wX.frozen? ⟨w.heap.size+1+1+1+1,0,none⟩=false:=by simp[World.frozen?,(cO HX).rb]
  have m:=cP (cO HX).from
  have s5:(wX.setCell ⟨w.heap.size+1+1+1+1,0,none⟩ (Z Y (de:Int))).cell? ⟨w.heap.size+1,0,none⟩=some (.pointer (some ⟨S,0,none⟩)):=by rw[cn _ _ 0 _ _ _ (cO m).sb];rfl
  clear HX;go_upto_region 6 with fail;clear f0 r0 aV;generalize World.setCell _ _ _=w5 at m s5 ⊢;have ab:Hid ((tM w D E S cX n cU FB every de R p0 k0 u.all).I w5 Q O v T 0):=⟨(cO H).below (cO m).lL,(cO m).fb,(cO m).eb,(cO m).sb,(cO m).rb,by have:=(cO H).pw.lt;show w.heap.size+1+1+1+1≠_;omega⟩
  have av:=cP (xl D E S cX n cU nn b Q R O v T w5 (cO ab).sf (λx hx=>by have:=(cO HT) x hx;omega) (cO aJ) (by omega) (by omega) (cO bn));have aw:Hid (Sm (eg Q (dO Q.fH ((T.drop (T.length-cU)).map (·.1)))).2 nn b):=(gz.tt (λo ho=>(rq _ _ o ho).1) (cO aJ)).all;unfold Ek at hO;obtain⟨rc,aW⟩:∃q,Hid (eg Q (dO Q.fH ((T.drop (T.length-cU)).map (·.1)))=q):=⟨_,rfl⟩
  rw[cO aW] at av aw hO;go_wp2_with fail;refine(cO av).mono ?_;rintro e w6 ⟨k1,k2,O6,v6,T6,hG,aD,ai⟩;obtain⟨aE,ar⟩:=(cO ab).next aD ai
  have ad:=cP aE;have L:Hid (fy w (OR O S v (w.heap.size+1+1+1+1)) w6 (OR O6 S v6 (w.heap.size+1+1+1+1))):=(fy.below _ (cO m).lL).trans ar;have M:∀{k:Nat} {c:Array TK} {t:TypeId},w5.heap[k]?=some (.cells c t (0,0))->(t∉jd/\t≠113/\t≠181)->w6.heap[k]?=some (.cells c t (0,0)):=λ{k c t} hk ht=>(ai.far (cS hk) (iZ (cO ab).sf hk ht)).1.trans hk
  have aF:=cP (M (cO m).jb (by decide));have ax:=cP (M (cO m).xb (by decide));have aj:=cP (M (cO m).gb (by decide));have aG:Hid (w6.ownsRow 0 104 4 (.slice p0 n k0) n (jm u.val u.fC u.iK u.je n)):=Dk.du (cO m).row ai.kept (λg hg hq=>Cd (cO ab).sf (cO m).row (by decide) g hg hq);clear aE ar aD ai M m ab av s5;by_cases hz:rc.1=0
  .obtain rfl:=k1 hz;have ay:T6=T.drop (T.length-cU):=hG hz;clear k1 k2 hG;rw[cd (by rw[hz];simp),<-ay] at hO;obtain⟨j,N⟩:∃q,Hid (rz P Es cT every cU cX n de ((cT-de)+1) de u (T6.map (·.1)) 0 rc.2=q):=⟨_,rfl⟩
   rw[cO N] at hO;have ak:=cP (MA (tM w D E S cX n cU FB every de R p0 k0 u.all) B pf kf pe ke cT P Es p0 k0 u z f j nn b rc.2 O6 v6 T6 w6 (cO ad) (λW O' v' hs=>cO aS W O' v' (w.heap.size+1+1+1+1) (by omega) ((cO L).trans hs)) (cO aG) (cO bk) (cO HJ) hl aN a7 aO a8 (cO aw) bc V bd hm (λx hx=>(cO HT) x (by rw[ay] at hx;exact Ep hx)) (by show T6.length<=cU;rw[ay,uT];omega) (cO N));obtain⟨j0,j1,j2,j3⟩:=fJ (B:=B) (pf:=pf) (n:=n) (kf:=kf) (pe:=pe) (ke:=ke) (cT:=cT) (cO aF);obtain⟨f0,f1,f2,_⟩:=dL (cO ad).fb;unfold gw dW at ak;dsimp only[tM] at ak f0 f1 f2;go_wp2_with fail;refine(cO ak).mono ?_;rintro e C ⟨m1,m2,O7,v7,T7,aH,U⟩;dsimp only[tM] at U;have ae:∀{k:Nat} {c:Array TK} {t:TypeId},w6.heap[k]?=some (.cells c t (0,0))->((t∉jd/\t≠113/\t≠181)/\t≠43)->C.heap[k]?=some (.cells c t (0,0)):=λ{k c t} hk ht=>(U.far (cS hk) ((cO ad).not hk ht)).1.trans hk
   have r:=cP (ae (cO ax) (by decide));have an:=cP (ae (cO aj) (by decide));have ao:=cP aH;have af:=cP ((cO L).trans U);have aX:6<w.heap.size:=(cO H).pw.lt;clear ae aH U ax aj aF aG ak aw j0 j1 j2 j3 f0 f1 f2;by_cases ag:j.e=0
   .obtain⟨sl,rfl,F⟩:=m1 ag;obtain⟨q,J,rfl⟩:=lW F;have aI:=cP (Rd.mE F (cO L).kept.size);have x0:C.cell? ⟨w.heap.size+1+1+1,0,none⟩=some (Z .u8 0):=by rw[cn C _ 0 _ _ _ (cO r)];rfl
    have x1:C.cell? ⟨w.heap.size+1+1+1,1,none⟩=some (Z Y 0):=by rw[cn C _ 1 _ _ _ (cO r)];rfl
    have x2:C.cell? ⟨w.heap.size+1+1+1,2,none⟩=some (Z Y 0):=by rw[cn C _ 2 _ _ _ (cO r)];rfl
    have x3:C.cell? ⟨w.heap.size+1+1+1,3,none⟩=some (.slice none 0 0):=by rw[cn C _ 3 _ _ _ (cO r)];rfl
    have y0:C.frozen? ⟨w.heap.size+1+1+1,0,none⟩=false:=by simp[World.frozen?,(cO r)]
    have y1:C.frozen? ⟨w.heap.size+1+1+1,1,none⟩=false:=by simp[World.frozen?,(cO r)]
    have y2:C.frozen? ⟨w.heap.size+1+1+1,2,none⟩=false:=by simp[World.frozen?,(cO r)]
    have y3:C.frozen? ⟨w.heap.size+1+1+1,3,none⟩=false:=by simp[World.frozen?,(cO r)]
    have H8:Hid (((((C.setCell ⟨w.heap.size+1+1+1,0,none⟩ (Z .u8 (j.res.outcome:Int))).setCell ⟨w.heap.size+1+1+1,1,none⟩ (Z Y (j.res.step:Int))).setCell ⟨w.heap.size+1+1+1,2,none⟩ (Z Y (j.res.dC:Int))).setCell ⟨w.heap.size+1+1+1,3,none⟩ (.slice q j.res.dH.length J)).heap[w.heap.size+1+1+1]?=some (.cells #[Z .u8 (j.res.outcome:Int),Z Y (j.res.step:Int),Z Y (j.res.dC:Int),.slice q j.res.dH.length J] 32 (0,0))/\(tM w D E S cX n cU FB every de R p0 k0 u.all).I ((((C.setCell ⟨w.heap.size+1+1+1,0,none⟩ (Z .u8 (j.res.outcome:Int))).setCell ⟨w.heap.size+1+1+1,1,none⟩ (Z Y (j.res.step:Int))).setCell ⟨w.heap.size+1+1+1,2,none⟩ (Z Y (j.res.dC:Int))).setCell ⟨w.heap.size+1+1+1,3,none⟩ (.slice q j.res.dH.length J)) j.R O7 v7 T7 j.saved/\((((C.setCell ⟨w.heap.size+1+1+1,0,none⟩ (Z .u8 (j.res.outcome:Int))).setCell ⟨w.heap.size+1+1+1,1,none⟩ (Z Y (j.res.step:Int))).setCell ⟨w.heap.size+1+1+1,2,none⟩ (Z Y (j.res.dC:Int))).setCell ⟨w.heap.size+1+1+1,3,none⟩ (.slice q j.res.dH.length J)).heap[w.heap.size+1+1+1+1+1]?=some (.cells #[Z Y 0] 33 (0,0))/\fy w (OR O S v (w.heap.size+1+1+1+1)) ((((C.setCell ⟨w.heap.size+1+1+1,0,none⟩ (Z .u8 (j.res.outcome:Int))).setCell ⟨w.heap.size+1+1+1,1,none⟩ (Z Y (j.res.step:Int))).setCell ⟨w.heap.size+1+1+1,2,none⟩ (Z Y (j.res.dC:Int))).setCell ⟨w.heap.size+1+1+1,3,none⟩ (.slice q j.res.dH.length J)) (OR O7 S v7 (w.heap.size+1+1+1+1))/\((((C.setCell ⟨w.heap.size+1+1+1,0,none⟩ (Z .u8 (j.res.outcome:Int))).setCell ⟨w.heap.size+1+1+1,1,none⟩ (Z Y (j.res.step:Int))).setCell ⟨w.heap.size+1+1+1,2,none⟩ (Z Y (j.res.dC:Int))).setCell ⟨w.heap.size+1+1+1,3,none⟩ (.slice q j.res.dH.length J)).ownsRow w.heap.size 2 1 (.slice q j.res.dH.length J) j.res.dH.length (j.res.dH.map (Z Y))):=by
     have b1:=cA C _ 0 _ _ (Z .u8 (j.res.outcome:Int)) (cO r);have b2:=cA _ _ 1 _ _ (Z Y (j.res.step:Int)) b1;have b3:=cA _ _ 2 _ _ (Z Y (j.res.dC:Int)) b2;have b4:=cA _ _ 3 _ _ (.slice q j.res.dH.length J) b3;have c1:=(cO ao).yN (cO r) (by decide) (by omega) 0 (Z .u8 (j.res.outcome:Int));have c2:=c1.yN b1 (by decide) (by omega) 1 (Z Y (j.res.step:Int));have c3:=c2.yN b2 (by decide) (by omega) 2 (Z Y (j.res.dC:Int));have c4:=c3.yN b3 (by decide) (by omega) 3 (.slice q j.res.dH.length J);refine⟨by rw[b4];rfl,c4,?_,lX (lX (lX (lX (cO af) (by omega) 0 _) (by omega) 1 _) (by omega) 2 _) (by omega) 3 _,?_⟩
     .rw[cG _ _ _ _ (show w.heap.size+1+1+1+1+1≠w.heap.size+1+1+1 by omega),cG _ _ _ _ (show w.heap.size+1+1+1+1+1≠w.heap.size+1+1+1 by omega),cG _ _ _ _ (show w.heap.size+1+1+1+1+1≠w.heap.size+1+1+1 by omega),cG _ _ _ _ (show w.heap.size+1+1+1+1+1≠w.heap.size+1+1+1 by omega)];exact cO an
     .have X:∀(W:TJ) (i:Nat) (x:TK) (cs:Array TK),W.heap[w.heap.size+1+1+1]?=some (.cells cs 32 (0,0))->W.ownsRow w.heap.size 2 1 (.slice q j.res.dH.length J) j.res.dH.length (j.res.dH.map (Z Y))->(W.setCell ⟨w.heap.size+1+1+1,i,none⟩ x).ownsRow w.heap.size 2 1 (.slice q j.res.dH.length J) j.res.dH.length (j.res.dH.map (Z Y)):=λW i x cs hA hx =>
       v8 hx (λe=>by obtain⟨y,hy,_⟩:=cZ hx e;exact cY hy hA (by decide) rfl) _
      exact X _ 3 _ _ b3 (X _ 2 _ _ b2 (X _ 1 _ _ b1 (X _ 0 _ _ (cO r) (cO aI))))
    clear r an ao af aI F m1 m2;go_upto_region 8 with fail;clear x0 x1 x2 x3 y0 y1 y2 y3;generalize World.setCell _ _ _=l at H8 ⊢;have A:=(cO H8).1;have G:=(cO H8).2.1.rb;have ah:=(cO H8).2.2.1;dsimp only[tM] at G;have x0:l.cell? ⟨w.heap.size+1+1+1,0,none⟩=some (Z .u8 (j.res.outcome:Int)):=by rw[cn l _ 0 _ _ _ A];rfl
    have x1:l.cell? ⟨w.heap.size+1+1+1,1,none⟩=some (Z Y (j.res.step:Int)):=by rw[cn l _ 1 _ _ _ A];rfl
    have x2:l.cell? ⟨w.heap.size+1+1+1,2,none⟩=some (Z Y (j.res.dC:Int)):=by rw[cn l _ 2 _ _ _ A];rfl
    have x3:l.cell? ⟨w.heap.size+1+1+1,3,none⟩=some (.slice q j.res.dH.length J):=by rw[cn l _ 3 _ _ _ A];rfl
    have x4:l.cell? ⟨w.heap.size+1+1+1+1,0,none⟩=some (Z Y (de:Int)):=by rw[cn l _ 0 _ _ _ G];rfl
    have x5:l.cell? ⟨w.heap.size+1+1+1+1,1,none⟩=some (Z Y (j.saved:Int)):=by rw[cn l _ 1 _ _ _ G];rfl
    have x6:l.cell? ⟨w.heap.size+1+1+1+1+1,0,none⟩=some (Z Y 0):=by rw[cn l _ 0 _ _ _ ah];rfl
    have y0:∀i,l.frozen? ⟨w.heap.size+1+1+1,i,none⟩=false:=λi=>by simp[World.frozen?,A]
    have y1:∀i,l.frozen? ⟨w.heap.size+1+1+1+1,i,none⟩=false:=λi=>by simp[World.frozen?,G]
    have y2:∀i,l.frozen? ⟨w.heap.size+1+1+1+1+1,i,none⟩=false:=λi=>by simp[World.frozen?,ah]
    have bF:l.drew.setCell ⟨w.heap.size+1+1+1,0,none⟩ (Z .u8 (j.res.outcome:Int))=l.drew:=fX (W:=l.drew) A rfl;have bG:l.drew.setCell ⟨w.heap.size+1+1+1,1,none⟩ (Z Y (j.res.step:Int))=l.drew:=fX (W:=l.drew) A rfl;have bH:l.drew.setCell ⟨w.heap.size+1+1+1,2,none⟩ (Z Y (j.res.dC:Int))=l.drew:=fX (W:=l.drew) A rfl;have bI:l.drew.setCell ⟨w.heap.size+1+1+1,3,none⟩ (.slice q j.res.dH.length J)=l.drew:=fX (W:=l.drew) A rfl;have bJ:l.drew.setCell ⟨w.heap.size+1+1+1+1,0,none⟩ (Z Y (de:Int))=l.drew:=fX (W:=l.drew) G rfl;have bK:l.drew.setCell ⟨w.heap.size+1+1+1+1,1,none⟩ (Z Y (j.saved:Int))=l.drew:=fX (W:=l.drew) G rfl;have bL:l.drew.setCell ⟨w.heap.size+1+1+1+1+1,0,none⟩ (Z Y 0)=l.drew:=fX (W:=l.drew) ah rfl;have HF:Hid (PP (.returned (nA j.res.outcome j.res.step j.res.dC q j.res.dH.length J de j.saved 0)) l.drew):=by
     show PP _ _
     rw[<-cO hO];obtain⟨g1,g2,g3,g4,g5⟩:=cO H8;refine⟨⟨q,j.res.dH.length,J,by rw[ag],?_⟩,O7,v7,T7,g2.sf.below TH.drew,(xx g4 (by omega)).trans (fy.below _ TH.drew)⟩;exact cW g5 TH.drew
    have aY:Hid (OY l.drew (w.heap.size+1+1+1) (w.heap.size+1+1+1+1) (w.heap.size+1+1+1+1+1) j.res.outcome j.res.step j.res.dC q j.res.dH.length J de j.saved 0):=⟨A,G,ah⟩
    clear H8 A G ah
    go_region
    all_goals
     go_wp2;exact Bp (XB:=w.heap.size+1+1+1) (RB:=w.heap.size+1+1+1+1) (GB:=w.heap.size+1+1+1+1+1) (by rfl) (by rfl) (by rfl) (cO aY) (cO HF)
   .obtain rfl:=m2 ag;refine Du (XB:=w.heap.size+1+1+1) (RB:=w.heap.size+1+1+1+1) (GB:=w.heap.size+1+1+1+1+1) (by rfl) (by rfl) (by rfl) ⟨cO r,(cO ao).rb,cO an⟩ (λo=>?_);rw[<-cO hO];obtain⟨g1,g2⟩:=(cO ao).leave (cO an) (by decide) (by omega) (cO af) (by omega) (Z Y j.e) o;refine⟨⟨none,0,0,?_,?_⟩,O7,v7,T7,g1.sf,xx g2 (by omega)⟩
    .have hn:=vQ (cO N) ag;rw[hn];rfl
    .have hn:=vQ (cO N) ag;rw[hn];exact fc _ _ _ _
  .obtain rfl:=k2 hz;have aX:6<w.heap.size:=(cO H).pw.lt;refine Du (XB:=w.heap.size+1+1+1) (RB:=w.heap.size+1+1+1+1) (GB:=w.heap.size+1+1+1+1+1) (by rfl) (by rfl) (by rfl) ⟨cO ax,(cO ad).rb,cO aj⟩ (λo=>?_);rw[<-cO hO,cg hz];obtain⟨g1,g2⟩:=(cO ad).leave (cO aj) (by decide) (by omega) (cO L) (by omega) (Z Y rc.1) o;exact⟨⟨none,0,0,rfl,fc _ _ _ _⟩,O6,v6,T6,g1.sf,xx g2 (by omega)⟩
 .obtain⟨q1,q2,q3⟩:=bD;obtain⟨xp,xn,xc,xa⟩:=x;dsimp only at q1 q2 q3;have bM:=q1.symm;subst bM;have bN:xa=u.all:=by rw[aK];exact q2
  subst bN;have bB:w.ownsRow 0 104 4 (.slice xp n xc) n (jm u.val u.fC u.iK u.je n):=by rw[aK];exact q3
  clear q2 q3;have bP:=cP aK;clear aK;have au:=cP (Ap S D cX n cU v T' de ⟨xp,n,xc,u.all⟩ W0 (by have:=((cO H).below s).sh;rw[bs] at this;exact this));unfold Rt.kQ at au;dsimp only at au;refine(cO au).mono ?_;rintro e w1 ⟨rfl,V⟩;have hA:∀o,TI W0 (w1.alloc o):=λo=>V.trans (((cj _ w1).alloc TG o).mono V.size)
  go_upto_region 5 with fail;generalize aq:World.alloc _ _=wX;have hX:=RX (wX:=wX) (FB:=w1.heap.size) (p0:=xp) (k0:=xc) (by rw[<-aq];exact hA _) (by rw[<-aq];exact ct w1 _) (by have:=V.size;have:=s.size;omega) (cW (cW bB s) (show TI W0 wX by rw[<-aq];exact hA _));obtain⟨FB,aC⟩:∃q,w1.heap.size=q:=⟨_,rfl⟩
  rw[aC] at hX ⊢;have HX:=cP hX;clear hX RX a1 a2 a3 a4 a5 a6 s bp V hA aq au aC bB bs;have f0:wX.cell? ⟨FB,0,none⟩=some (Z Y (de:Int)):=by rw[cn wX _ 0 _ _ _ (cO HX).fb];rfl
  have r0:wX.cell? ⟨w.heap.size+1+1+1+1,0,none⟩=some (Z Y 0):=by rw[cn wX _ 0 _ _ _ (cO HX).rb];rfl
  have aV:wX.frozen? ⟨w.heap.size+1+1+1+1,0,none⟩=false:=by simp[World.frozen?,(cO HX).rb]
  have m:=cP (cO HX).from
  have s5:(wX.setCell ⟨w.heap.size+1+1+1+1,0,none⟩ (Z Y (de:Int))).cell? ⟨w.heap.size+1,0,none⟩=some (.pointer (some ⟨S,0,none⟩)):=by rw[cn _ _ 0 _ _ _ (cO m).sb];rfl
  clear HX;go_upto_region 6 with fail;clear f0 r0 aV;generalize World.setCell _ _ _=w5 at m s5 ⊢;have ab:Hid ((tM w D E S cX n cU FB every de R xp xc u.all).I w5 Q O v T 0):=⟨(cO H).below (cO m).lL,(cO m).fb,(cO m).eb,(cO m).sb,(cO m).rb,by have:=(cO H).pw.lt;show w.heap.size+1+1+1+1≠_;omega⟩
  have av:=cP (xl D E S cX n cU nn b Q R O v T w5 (cO ab).sf (λx hx=>by have:=(cO HT) x hx;omega) (cO aJ) (by omega) (by omega) (cO bn));have aw:Hid (Sm (eg Q (dO Q.fH ((T.drop (T.length-cU)).map (·.1)))).2 nn b):=(gz.tt (λo ho=>(rq _ _ o ho).1) (cO aJ)).all;unfold Ek at hO;obtain⟨rc,aW⟩:∃q,Hid (eg Q (dO Q.fH ((T.drop (T.length-cU)).map (·.1)))=q):=⟨_,rfl⟩
  rw[cO aW] at av aw hO;go_wp2_with fail;refine(cO av).mono ?_;rintro e w6 ⟨k1,k2,O6,v6,T6,hG,aD,ai⟩;obtain⟨aE,ar⟩:=(cO ab).next aD ai
  have ad:=cP aE;have L:Hid (fy w (OR O S v (w.heap.size+1+1+1+1)) w6 (OR O6 S v6 (w.heap.size+1+1+1+1))):=(fy.below _ (cO m).lL).trans ar;have M:∀{k:Nat} {c:Array TK} {t:TypeId},w5.heap[k]?=some (.cells c t (0,0))->(t∉jd/\t≠113/\t≠181)->w6.heap[k]?=some (.cells c t (0,0)):=λ{k c t} hk ht=>(ai.far (cS hk) (iZ (cO ab).sf hk ht)).1.trans hk
  have aF:=cP (M (cO m).jb (by decide));have ax:=cP (M (cO m).xb (by decide));have aj:=cP (M (cO m).gb (by decide));have aG:Hid (w6.ownsRow 0 104 4 (.slice xp n xc) n (jm u.val u.fC u.iK u.je n)):=Dk.du (cO m).row ai.kept (λg hg hq=>Cd (cO ab).sf (cO m).row (by decide) g hg hq);clear aE ar aD ai M m ab av s5;by_cases hz:rc.1=0
  .obtain rfl:=k1 hz;have ay:T6=T.drop (T.length-cU):=hG hz;clear k1 k2 hG;rw[cd (by rw[hz];simp),<-ay] at hO;obtain⟨j,N⟩:∃q,Hid (rz P Es cT every cU cX n de ((cT-de)+1) de u (T6.map (·.1)) 0 rc.2=q):=⟨_,rfl⟩
   rw[cO N] at hO;have ak:=cP (MA (tM w D E S cX n cU FB every de R xp xc u.all) B pf kf pe ke cT P Es xp xc u z f j nn b rc.2 O6 v6 T6 w6 (cO ad) (λW O' v' hs=>cO aS W O' v' (w.heap.size+1+1+1+1) (by omega) ((cO L).trans hs)) (cO aG) (cO bk) (cO HJ) hl aN a7 aO a8 (cO aw) bc V bd hm (λx hx=>(cO HT) x (by rw[ay] at hx;exact Ep hx)) (by show T6.length<=cU;rw[ay,uT];omega) (cO N));obtain⟨j0,j1,j2,j3⟩:=fJ (B:=B) (pf:=pf) (n:=n) (kf:=kf) (pe:=pe) (ke:=ke) (cT:=cT) (cO aF);obtain⟨f0,f1,f2,_⟩:=dL (cO ad).fb;unfold gw dW at ak;dsimp only[tM] at ak f0 f1 f2;go_wp2_with fail;refine(cO ak).mono ?_;rintro e C ⟨m1,m2,O7,v7,T7,aH,U⟩;dsimp only[tM] at U;have ae:∀{k:Nat} {c:Array TK} {t:TypeId},w6.heap[k]?=some (.cells c t (0,0))->((t∉jd/\t≠113/\t≠181)/\t≠43)->C.heap[k]?=some (.cells c t (0,0)):=λ{k c t} hk ht=>(U.far (cS hk) ((cO ad).not hk ht)).1.trans hk
   have r:=cP (ae (cO ax) (by decide));have an:=cP (ae (cO aj) (by decide));have ao:=cP aH;have af:=cP ((cO L).trans U);have aX:6<w.heap.size:=(cO H).pw.lt;clear ae aH U ax aj aF aG ak aw j0 j1 j2 j3 f0 f1 f2;by_cases ag:j.e=0
   .obtain⟨sl,rfl,F⟩:=m1 ag;obtain⟨q,J,rfl⟩:=lW F;have aI:=cP (Rd.mE F (cO L).kept.size);have x0:C.cell? ⟨w.heap.size+1+1+1,0,none⟩=some (Z .u8 0):=by rw[cn C _ 0 _ _ _ (cO r)];rfl
    have x1:C.cell? ⟨w.heap.size+1+1+1,1,none⟩=some (Z Y 0):=by rw[cn C _ 1 _ _ _ (cO r)];rfl
    have x2:C.cell? ⟨w.heap.size+1+1+1,2,none⟩=some (Z Y 0):=by rw[cn C _ 2 _ _ _ (cO r)];rfl
    have x3:C.cell? ⟨w.heap.size+1+1+1,3,none⟩=some (.slice none 0 0):=by rw[cn C _ 3 _ _ _ (cO r)];rfl
    have y0:C.frozen? ⟨w.heap.size+1+1+1,0,none⟩=false:=by simp[World.frozen?,(cO r)]
    have y1:C.frozen? ⟨w.heap.size+1+1+1,1,none⟩=false:=by simp[World.frozen?,(cO r)]
    have y2:C.frozen? ⟨w.heap.size+1+1+1,2,none⟩=false:=by simp[World.frozen?,(cO r)]
    have y3:C.frozen? ⟨w.heap.size+1+1+1,3,none⟩=false:=by simp[World.frozen?,(cO r)]
    have H8:Hid (((((C.setCell ⟨w.heap.size+1+1+1,0,none⟩ (Z .u8 (j.res.outcome:Int))).setCell ⟨w.heap.size+1+1+1,1,none⟩ (Z Y (j.res.step:Int))).setCell ⟨w.heap.size+1+1+1,2,none⟩ (Z Y (j.res.dC:Int))).setCell ⟨w.heap.size+1+1+1,3,none⟩ (.slice q j.res.dH.length J)).heap[w.heap.size+1+1+1]?=some (.cells #[Z .u8 (j.res.outcome:Int),Z Y (j.res.step:Int),Z Y (j.res.dC:Int),.slice q j.res.dH.length J] 32 (0,0))/\(tM w D E S cX n cU FB every de R xp xc u.all).I ((((C.setCell ⟨w.heap.size+1+1+1,0,none⟩ (Z .u8 (j.res.outcome:Int))).setCell ⟨w.heap.size+1+1+1,1,none⟩ (Z Y (j.res.step:Int))).setCell ⟨w.heap.size+1+1+1,2,none⟩ (Z Y (j.res.dC:Int))).setCell ⟨w.heap.size+1+1+1,3,none⟩ (.slice q j.res.dH.length J)) j.R O7 v7 T7 j.saved/\((((C.setCell ⟨w.heap.size+1+1+1,0,none⟩ (Z .u8 (j.res.outcome:Int))).setCell ⟨w.heap.size+1+1+1,1,none⟩ (Z Y (j.res.step:Int))).setCell ⟨w.heap.size+1+1+1,2,none⟩ (Z Y (j.res.dC:Int))).setCell ⟨w.heap.size+1+1+1,3,none⟩ (.slice q j.res.dH.length J)).heap[w.heap.size+1+1+1+1+1]?=some (.cells #[Z Y 0] 33 (0,0))/\fy w (OR O S v (w.heap.size+1+1+1+1)) ((((C.setCell ⟨w.heap.size+1+1+1,0,none⟩ (Z .u8 (j.res.outcome:Int))).setCell ⟨w.heap.size+1+1+1,1,none⟩ (Z Y (j.res.step:Int))).setCell ⟨w.heap.size+1+1+1,2,none⟩ (Z Y (j.res.dC:Int))).setCell ⟨w.heap.size+1+1+1,3,none⟩ (.slice q j.res.dH.length J)) (OR O7 S v7 (w.heap.size+1+1+1+1))/\((((C.setCell ⟨w.heap.size+1+1+1,0,none⟩ (Z .u8 (j.res.outcome:Int))).setCell ⟨w.heap.size+1+1+1,1,none⟩ (Z Y (j.res.step:Int))).setCell ⟨w.heap.size+1+1+1,2,none⟩ (Z Y (j.res.dC:Int))).setCell ⟨w.heap.size+1+1+1,3,none⟩ (.slice q j.res.dH.length J)).ownsRow w.heap.size 2 1 (.slice q j.res.dH.length J) j.res.dH.length (j.res.dH.map (Z Y))):=by
     have b1:=cA C _ 0 _ _ (Z .u8 (j.res.outcome:Int)) (cO r);have b2:=cA _ _ 1 _ _ (Z Y (j.res.step:Int)) b1;have b3:=cA _ _ 2 _ _ (Z Y (j.res.dC:Int)) b2;have b4:=cA _ _ 3 _ _ (.slice q j.res.dH.length J) b3;have c1:=(cO ao).yN (cO r) (by decide) (by omega) 0 (Z .u8 (j.res.outcome:Int));have c2:=c1.yN b1 (by decide) (by omega) 1 (Z Y (j.res.step:Int));have c3:=c2.yN b2 (by decide) (by omega) 2 (Z Y (j.res.dC:Int));have c4:=c3.yN b3 (by decide) (by omega) 3 (.slice q j.res.dH.length J);refine⟨by rw[b4];rfl,c4,?_,lX (lX (lX (lX (cO af) (by omega) 0 _) (by omega) 1 _) (by omega) 2 _) (by omega) 3 _,?_⟩
     .rw[cG _ _ _ _ (show w.heap.size+1+1+1+1+1≠w.heap.size+1+1+1 by omega),cG _ _ _ _ (show w.heap.size+1+1+1+1+1≠w.heap.size+1+1+1 by omega),cG _ _ _ _ (show w.heap.size+1+1+1+1+1≠w.heap.size+1+1+1 by omega),cG _ _ _ _ (show w.heap.size+1+1+1+1+1≠w.heap.size+1+1+1 by omega)];exact cO an
     .have X:∀(W:TJ) (i:Nat) (x:TK) (cs:Array TK),W.heap[w.heap.size+1+1+1]?=some (.cells cs 32 (0,0))->W.ownsRow w.heap.size 2 1 (.slice q j.res.dH.length J) j.res.dH.length (j.res.dH.map (Z Y))->(W.setCell ⟨w.heap.size+1+1+1,i,none⟩ x).ownsRow w.heap.size 2 1 (.slice q j.res.dH.length J) j.res.dH.length (j.res.dH.map (Z Y)):=λW i x cs hA hx =>
       v8 hx (λe=>by obtain⟨y,hy,_⟩:=cZ hx e;exact cY hy hA (by decide) rfl) _
      exact X _ 3 _ _ b3 (X _ 2 _ _ b2 (X _ 1 _ _ b1 (X _ 0 _ _ (cO r) (cO aI))))
    clear r an ao af aI F m1 m2;go_upto_region 8 with fail;clear x0 x1 x2 x3 y0 y1 y2 y3;generalize World.setCell _ _ _=l at H8 ⊢;have A:=(cO H8).1;have G:=(cO H8).2.1.rb;have ah:=(cO H8).2.2.1;dsimp only[tM] at G;have x0:l.cell? ⟨w.heap.size+1+1+1,0,none⟩=some (Z .u8 (j.res.outcome:Int)):=by rw[cn l _ 0 _ _ _ A];rfl
    have x1:l.cell? ⟨w.heap.size+1+1+1,1,none⟩=some (Z Y (j.res.step:Int)):=by rw[cn l _ 1 _ _ _ A];rfl
    have x2:l.cell? ⟨w.heap.size+1+1+1,2,none⟩=some (Z Y (j.res.dC:Int)):=by rw[cn l _ 2 _ _ _ A];rfl
    have x3:l.cell? ⟨w.heap.size+1+1+1,3,none⟩=some (.slice q j.res.dH.length J):=by rw[cn l _ 3 _ _ _ A];rfl
    have x4:l.cell? ⟨w.heap.size+1+1+1+1,0,none⟩=some (Z Y (de:Int)):=by rw[cn l _ 0 _ _ _ G];rfl
    have x5:l.cell? ⟨w.heap.size+1+1+1+1,1,none⟩=some (Z Y (j.saved:Int)):=by rw[cn l _ 1 _ _ _ G];rfl
    have x6:l.cell? ⟨w.heap.size+1+1+1+1+1,0,none⟩=some (Z Y 0):=by rw[cn l _ 0 _ _ _ ah];rfl
    have y0:∀i,l.frozen? ⟨w.heap.size+1+1+1,i,none⟩=false:=λi=>by simp[World.frozen?,A]
    have y1:∀i,l.frozen? ⟨w.heap.size+1+1+1+1,i,none⟩=false:=λi=>by simp[World.frozen?,G]
    have y2:∀i,l.frozen? ⟨w.heap.size+1+1+1+1+1,i,none⟩=false:=λi=>by simp[World.frozen?,ah]
    have bF:l.drew.setCell ⟨w.heap.size+1+1+1,0,none⟩ (Z .u8 (j.res.outcome:Int))=l.drew:=fX (W:=l.drew) A rfl;have bG:l.drew.setCell ⟨w.heap.size+1+1+1,1,none⟩ (Z Y (j.res.step:Int))=l.drew:=fX (W:=l.drew) A rfl;have bH:l.drew.setCell ⟨w.heap.size+1+1+1,2,none⟩ (Z Y (j.res.dC:Int))=l.drew:=fX (W:=l.drew) A rfl;have bI:l.drew.setCell ⟨w.heap.size+1+1+1,3,none⟩ (.slice q j.res.dH.length J)=l.drew:=fX (W:=l.drew) A rfl;have bJ:l.drew.setCell ⟨w.heap.size+1+1+1+1,0,none⟩ (Z Y (de:Int))=l.drew:=fX (W:=l.drew) G rfl;have bK:l.drew.setCell ⟨w.heap.size+1+1+1+1,1,none⟩ (Z Y (j.saved:Int))=l.drew:=fX (W:=l.drew) G rfl;have bL:l.drew.setCell ⟨w.heap.size+1+1+1+1+1,0,none⟩ (Z Y 0)=l.drew:=fX (W:=l.drew) ah rfl;have HF:Hid (PP (.returned (nA j.res.outcome j.res.step j.res.dC q j.res.dH.length J de j.saved 0)) l.drew):=by
     show PP _ _
     rw[<-cO hO];obtain⟨g1,g2,g3,g4,g5⟩:=cO H8;refine⟨⟨q,j.res.dH.length,J,by rw[ag],?_⟩,O7,v7,T7,g2.sf.below TH.drew,(xx g4 (by omega)).trans (fy.below _ TH.drew)⟩;exact cW g5 TH.drew
    have aY:Hid (OY l.drew (w.heap.size+1+1+1) (w.heap.size+1+1+1+1) (w.heap.size+1+1+1+1+1) j.res.outcome j.res.step j.res.dC q j.res.dH.length J de j.saved 0):=⟨A,G,ah⟩
    clear H8 A G ah
    go_region
    all_goals
     go_wp2;exact Bp (XB:=w.heap.size+1+1+1) (RB:=w.heap.size+1+1+1+1) (GB:=w.heap.size+1+1+1+1+1) (by rfl) (by rfl) (by rfl) (cO aY) (cO HF)
   .obtain rfl:=m2 ag;refine Du (XB:=w.heap.size+1+1+1) (RB:=w.heap.size+1+1+1+1) (GB:=w.heap.size+1+1+1+1+1) (by rfl) (by rfl) (by rfl) ⟨cO r,(cO ao).rb,cO an⟩ (λo=>?_);rw[<-cO hO];obtain⟨g1,g2⟩:=(cO ao).leave (cO an) (by decide) (by omega) (cO af) (by omega) (Z Y j.e) o;refine⟨⟨none,0,0,?_,?_⟩,O7,v7,T7,g1.sf,xx g2 (by omega)⟩
    .have hn:=vQ (cO N) ag;rw[hn];rfl
    .have hn:=vQ (cO N) ag;rw[hn];exact fc _ _ _ _
  .obtain rfl:=k2 hz;have aX:6<w.heap.size:=(cO H).pw.lt;refine Du (XB:=w.heap.size+1+1+1) (RB:=w.heap.size+1+1+1+1) (GB:=w.heap.size+1+1+1+1+1) (by rfl) (by rfl) (by rfl) ⟨cO ax,(cO ad).rb,cO aj⟩ (λo=>?_);rw[<-cO hO,cg hz];obtain⟨g1,g2⟩:=(cO ad).leave (cO aj) (by decide) (by omega) (cO L) (by omega) (Z Y rc.1) o;exact⟨⟨none,0,0,rfl,fc _ _ _ _⟩,O6,v6,T6,g1.sf,xx g2 (by omega)⟩
end Ru
end Go.Proofs.YtgkkdpegcieakaaGreatDoor
