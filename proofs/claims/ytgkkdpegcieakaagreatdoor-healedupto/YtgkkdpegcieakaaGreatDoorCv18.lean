import Derived.Test.YtgkkdpegcieakaaGreatDoorCv12
set_option linter.all false
set_option maxRecDepth 100000
set_option maxHeartbeats 0
namespace Go.Proofs.YtgkkdpegcieakaaGreatDoor
open Go.Proofs.Tryz
open Value renaming int→Z,slice→J,pointer→V9,bool→Wa,tuple→Wb,agg→Wc
open Ending renaming returned→Wd
open Obj renaming cells→D
open Option renaming none→U,some→S
open Bool renaming true→We,false→Wg
open Or renaming inl→Wh
open _root_.Array renaming size→N
open World renaming cell?→Wj,heap→E
open IntKind renaming i64→Y
open Go renaming World→V5,Value→V6,Calls→V7
section
open Go.RowKit
def EA(o:Option Sp.Tn)(w:V5)(e:Ending)(w':V5):Prop:=V4 w w'/\match o with
  |some t=>∃v,e=Wd (Wb #[Wc #[Z Y t.value,v,Wa t.gx,Z Y t.lE],Wa We])/\w'.ownsRow (N (E w)) 2 1 v t.dZ.length (t.dZ.map λm=>Z Y m.2)
  |none=>e=Wd (Wb #[Wc #[Z Y 0,J U 0 0,Wa Wg,Z Y 0],Wa Wg])
structure mH (w W:V5) (E:Sp.Ev) (a:Int) (b:V6) (c:Bool) (d:Int):Prop where
 si:ey W w.heap.size E
 tu:eO W (w.heap.size+1) (w.heap.size+1+1) a b c d Wg
 lJ:V4 w W
variable {w:V5}{c k:Bool}{d a:Int}{T K:Nat}{b:V6}
theorem eO.QE(h:eO w T K a b c d k): T<N (E w):=Tu w _ h.c0
theorem eO.SL(h:eO w T K a b c d k): K<N (E w):=Tu w _ h.ck
theorem eO.below{w':V5}(h:eO w T K a b c d k)(hb:V4 w w'): eO w' T K a b c d k:=⟨(hb.cell (p:=⟨T,0,U⟩) h.QE).trans h.c0,(hb.cell (p:=⟨T,1,U⟩) h.QE).trans h.c1,(hb.cell (p:=⟨T,2,U⟩) h.QE).trans h.c2,(hb.cell (p:=⟨T,3,U⟩) h.QE).trans h.c3,(hb.cell (p:=⟨K,0,U⟩) h.SL).trans h.ck,λj=>(hb.frozen (p:=⟨T,j,U⟩) h.QE).trans (h.fz j),(hb.frozen (p:=⟨K,0,U⟩) h.SL).trans h.fk,h.ne⟩
variable {W:V5}
theorem mH.below{e:V5}{E:Sp.Ev}(h:mH w W E a b c d)(hb:V4 W e): mH w e E a b c d:=⟨h.si.below hb,h.tu.below hb,h.lJ.trans (hb.mono h.lJ.size)⟩
variable {v:V6}{i:Nat}
theorem dA{a b j:Nat}(h:a≠b): (W.setCell ⟨a,i,U⟩ v).cell? ⟨b,j,U⟩=W.cell? ⟨b,j,U⟩:=TQ W ⟨a,i,U⟩ ⟨b,j,U⟩ v (by intro e;injection e with e _;exact h e)
theorem ey.other{e a:Nat}{E:Sp.Ev}(h:ey W e E)(l:a≠e): ey (W.setCell ⟨a,i,U⟩ v) e E:=h.far (λj=>dA l) (λj=>TX _ _ _ _)
theorem eO.other{q:Nat}(h:eO W T K a b c d k)(h1:q≠T)(h2:q≠K): eO (W.setCell ⟨q,i,U⟩ v) T K a b c d k:=⟨(dA h1).trans h.c0,(dA h1).trans h.c1,(dA h1).trans h.c2,(dA h1).trans h.c3,(dA h2).trans h.ck,λj=>(TX _ _ _ _).trans (h.fz j),(TX _ _ _ _).trans h.fk,h.ne⟩
theorem eO.s0(h:eO W T K a b c d k)(x:Int): eO (W.setCell ⟨T,0,U⟩ (Z Y x)) T K x b c d k:=⟨T0 _ _ _ h.c0,(cW (by omega)).trans h.c1,(cW (by omega)).trans h.c2,(cW (by omega)).trans h.c3,(dA h.ne).trans h.ck,λj=>(TX _ _ _ _).trans (h.fz j),(TX _ _ _ _).trans h.fk,h.ne⟩
theorem eO.s1(h:eO W T K a b c d k)(x:V6): eO (W.setCell ⟨T,1,U⟩ x) T K a x c d k:=⟨(cW (by omega)).trans h.c0,T0 _ _ _ h.c1,(cW (by omega)).trans h.c2,(cW (by omega)).trans h.c3,(dA h.ne).trans h.ck,λj=>(TX _ _ _ _).trans (h.fz j),(TX _ _ _ _).trans h.fk,h.ne⟩
theorem eO.s2(h:eO W T K a b c d k)(x:Bool): eO (W.setCell ⟨T,2,U⟩ (Wa x)) T K a b x d k:=⟨(cW (by omega)).trans h.c0,(cW (by omega)).trans h.c1,T0 _ _ _ h.c2,(cW (by omega)).trans h.c3,(dA h.ne).trans h.ck,λj=>(TX _ _ _ _).trans (h.fz j),(TX _ _ _ _).trans h.fk,h.ne⟩
theorem eO.s3(h:eO W T K a b c d k)(x:Int): eO (W.setCell ⟨T,3,U⟩ (Z Y x)) T K a b c x k:=⟨(cW (by omega)).trans h.c0,(cW (by omega)).trans h.c1,(cW (by omega)).trans h.c2,T0 _ _ _ h.c3,(dA h.ne).trans h.ck,λj=>(TX _ _ _ _).trans (h.fz j),(TX _ _ _ _).trans h.fk,h.ne⟩
theorem ey.j4{e:Nat}{E:Sp.Ev}(h:ey w e E)(v:Int): ey (w.setCell ⟨e,0,U⟩ (Z Y v)) e (E.j4 v):=by
 have l:∀j,j≠0->(w.setCell ⟨e,0,U⟩ (Z Y v)).cell? ⟨e,j,U⟩=w.cell? ⟨e,j,U⟩:=λj m=>cW (by omega)
 exact⟨T0 _ _ _ h.c0,(l _ (by omega)).trans h.c1,(l _ (by omega)).trans h.c2,(l _ (by omega)).trans h.c3,(l _ (by omega)).trans h.c4,(l _ (by omega)).trans h.c5,(l _ (by omega)).trans h.c6,(l _ (by omega)).trans h.c7,(l _ (by omega)).trans h.c8,λj=>(TX _ _ _ _).trans (h.fz j)⟩
theorem mH.j4{E:Sp.Ev}(h:mH w W E a b c d)(v:Int): mH w (W.setCell ⟨w.heap.size,0,U⟩ (Z Y v)) (E.j4 v) a b c d:=⟨h.si.j4 v,h.tu.other (by omega) (by omega),h.lJ.setCell (p:=⟨w.heap.size,0,U⟩) V2 _⟩
theorem mH.s0{E:Sp.Ev}(h:mH w W E a b c d)(x:Int): mH w (W.setCell ⟨w.heap.size+1,0,U⟩ (Z Y x)) E x b c d:=⟨h.si.other (by omega),h.tu.s0 x,h.lJ.setCell (p:=⟨w.heap.size+1,0,U⟩) (Uh _) _⟩
theorem mH.s1{E:Sp.Ev}(h:mH w W E a b c d)(x:V6): mH w (W.setCell ⟨w.heap.size+1,1,U⟩ x) E a x c d:=⟨h.si.other (by omega),h.tu.s1 x,h.lJ.setCell (p:=⟨w.heap.size+1,1,U⟩) (Uh _) _⟩
theorem mH.s2{E:Sp.Ev}(h:mH w W E a b c d)(x:Bool): mH w (W.setCell ⟨w.heap.size+1,2,U⟩ (Wa x)) E a b x d:=⟨h.si.other (by omega),h.tu.s2 x,h.lJ.setCell (p:=⟨w.heap.size+1,2,U⟩) (Uh _) _⟩
theorem mH.s3{E:Sp.Ev}(h:mH w W E a b c d)(x:Int): mH w (W.setCell ⟨w.heap.size+1,3,U⟩ (Z Y x)) E a b c x:=⟨h.si.other (by omega),h.tu.s3 x,h.lJ.setCell (p:=⟨w.heap.size+1,3,U⟩) (Uh _) _⟩
theorem zf(h:V4 w W)(e:N (E w)<=T)(j:N (E w)<=K): V4 w (oV W T K):=((((h.setCell (p:=⟨T,0,U⟩) e _).setCell (p:=⟨T,1,U⟩) e _).setCell (p:=⟨T,2,U⟩) e _).setCell (p:=⟨T,3,U⟩) e _).setCell (p:=⟨K,0,U⟩) j _
theorem Gx(h:eO w T K a b c d k): eO (oV w T K) T K 0 (J U 0 0) Wg 0 Wg:=by
 have l:=(((h.s0 0).s1 (J U 0 0)).s2 Wg).s3 0;unfold oV;have m:=h.ne;exact⟨(dA (λe=>m e.symm)).trans l.c0,(dA (λe=>m e.symm)).trans l.c1,(dA (λe=>m e.symm)).trans l.c2,(dA (λe=>m e.symm)).trans l.c3,T0 _ _ _ l.ck,λj=>(TX _ _ _ _).trans (l.fz j),(TX _ _ _ _).trans l.fk,m⟩
def SA(w:V5):Deferred:={ target := .fn (.func 114) #[V9 (S ⟨N (E w)+1,0,U⟩),V9 (S ⟨N (E w)+1+1,0,U⟩)],args := #[] }
def nX:V6 := Wb #[Wc #[Z Y 0,J U 0 0,Wa Wg,Z Y 0],Wa Wg]
variable {tmps:Array V6}
theorem rK(e:tmps[6]?=S (V9 (S ⟨N (E w)+1,0,U⟩)))(j:tmps[7]?=S (V9 (S ⟨N (E w)+1+1,0,U⟩)))(h:eO W (N (E w)+1) (N (E w)+1+1) a b c d k)(hb:b.oneCell'=We):(results f73 tmps).run prog W=.ok (Wb #[Wc #[Z Y a,b,Wa c,Z Y d],Wa k]) W:=by
 have l:=h.c0;have m:=h.c1;have r:=h.c2;have u:=h.c3;have y:=h.ck;cases b <;> simp_all [results,results73,go_sem,Value.oneCell']
theorem fh{E:Sp.Ev}{z f:Addr}{O:Ending->V5->Prop}{y:List PanicEntry}(B:tmps[6]?=S (V9 (S ⟨w.heap.size+1,0,U⟩)))(C:tmps[7]?=S (V9 (S ⟨w.heap.size+1+1,0,U⟩)))(m:mH w W E a b c d)(he:j6 w z f)(j:GH z f (.panicked y))(F:∀A,V4 w A->O (Wd nX) A): Leaves prog f73 tmps O [SA w] (.panicking y) W:=by
 have r:=he.below m.lJ;have l:∃v,(results f73 tmps).run prog (oV W (w.heap.size+1) (w.heap.size+1+1))=.ok v (oV W (w.heap.size+1) (w.heap.size+1+1))/\O (Wd v) (oV W (w.heap.size+1) (w.heap.size+1+1)):=⟨nX,rK B C (Gx m.tu) rfl,F _ (zf m.lJ (by omega) (by omega))⟩
 rcases j with j|j
 .injection j with j;subst j;refine leaves_cons (f:=114) (args := #[V9 (S ⟨w.heap.size+1,0,U⟩),V9 (S ⟨w.heap.size+1+1,0,U⟩)]) (by simp) (by simp[go_sem]) ?_;refine(BS _ _ z f _ _ _ _ _ _ m.tu r).mono ?_;rintro e G u ⟨rfl,rfl,rfl⟩;exact l
 .injection j with j;subst j;refine leaves_cons (f:=114) (args := #[V9 (S ⟨w.heap.size+1,0,U⟩),V9 (S ⟨w.heap.size+1+1,0,U⟩)]) (by simp) (by simp[go_sem]) ?_;refine(Bs _ _ z f _ _ _ _ _ _ m.tu r).mono ?_;rintro e G u ⟨rfl,rfl,rfl⟩;exact l
theorem Hf{O:Ending->V5->Prop}(j:tmps[6]?=S (V9 (S ⟨N (E w)+1,0,U⟩)))(l:tmps[7]?=S (V9 (S ⟨N (E w)+1+1,0,U⟩)))(m:eO W (N (E w)+1) (N (E w)+1+1) a b c d We)(hb:b.oneCell'=We)(r:O (Wd (Wb #[Wc #[Z Y a,b,Wa c,Z Y d],Wa We])) W): Leaves prog f73 tmps O [SA w] .returning W:=by
 refine leaves_cons (f:=114) (args := #[V9 (S ⟨N (E w)+1,0,U⟩),V9 (S ⟨N (E w)+1+1,0,U⟩)]) (by simp) (by simp[go_sem]) ?_;refine(AE _ _ _).mono ?_;rintro e y u ⟨rfl,rfl,rfl⟩;exact⟨_,rK j l m hb,r⟩
theorem jh{B:Nat}{P:Sp.Pg}{E:Sp.Ev}{z f:Addr}(m:jH w B P)(he:j6 w z f)(r:Sp.nE E)(hb:V4 w W)(hi:i<5): ∃g e,W.cell? ⟨B,i*4,U⟩=S (J (S ⟨g,0,U⟩) (P.code i).length e)/\∀j,V4 W j->V7 prog 115 #[J (S ⟨g,0,U⟩) (P.code i).length e,mZ E] j (EH (Sp.ev (P.code i) E) z f j):=by
 obtain⟨g,e,u,y⟩:=m.code i hi;refine⟨g,e,(hb.cell (p:=⟨B,i*4,U⟩) m.lt).trans u,λj A=>?_⟩;have l:=hb.trans (A.mono hb.size);exact wE _ E r g e z f j (y.below l) (he.below l)
def NA(Q:Exit->Act->V5->Prop):Exit->Act->V5->Prop
 |.panic _,_,_=>False
 |.normal,a,w=>Q .normal a w
 |.ret,a,w=>Q .ret a w
 |.exit n,a,w=>Q (.exit n) a w
 |.goto n,a,w=>Q (.goto n) a w
 |.outgrown,a,w=>Q .outgrown a w
theorem DD{Q:Exit->Act->V5->Prop}:∀e a w,NA Q e a w->Q e a w:=λe a w h=>by
 cases e <;> first|exact h|exact h.elim
theorem mJ{P:Program}{c:Code}{Q:Exit->Act->V5->Prop}{a:Act}(R:V5->Prop)(h:∃A,c.wp P (NA λx l j=>x=.normal/\l=A/\R j) a w/\∀j,R j->Q .normal A j): c.wp P Q a w:=by
 obtain⟨A,m,r⟩:=h;refine Code.wp_mono (λe a w h=>?_) m;obtain⟨rfl,rfl,u⟩:=DD _ _ _ h;exact r _ u
theorem uP{O:Ending->V5->Prop}{d:Nat}(r:d≠6)(y:d≠7): ∀(j:List Deferred) (u:FrameMode) (w:V5),Leaves prog f73 (tmps.setIfInBounds d v) O j u w->Leaves prog f73 tmps O j u w:=by
 have z:results f73 (tmps.setIfInBounds d v)=results f73 tmps:=by
  simp[results,results73,U9 r,U9 y]
 intro j
 induction j with
 |nil =>
  intro u w h;cases u with
  |run=>exact h
  |returning=>unfold Leaves at h ⊢;rw[z] at h;exact h
  |panicking ch=>exact h
 |cons x j m =>
  intro u w h;obtain⟨A,B,C,f,args,F,G,I⟩:=h;refine⟨A,B,C,f,args,F,G,I.mono ?_⟩;intro e L M l;cases e with
  |returned v=>exact m _ _ l
  |panicked ch=>exact m _ _ l
  |outgrown=>exact l
theorem dK{K:Act->V5->Prop}{O:Ending->V5->Prop}{d:Nat}(e:d≠6)(j:d≠7): ∀c (a:Act) w,Exit.then K (bodyPostD prog f73 O) (.panic c) (a.put (S d) v) w->Exit.then K (bodyPostD prog f73 O) (.panic c) a w:=λc a w h=>uP e j _ _ _ h
theorem dF{K e:Act->V5->Prop}{O:Ending->V5->Prop}{d:Nat}(j:d≠6)(l:d≠7): ∀c (a:Act) w,Exit.then K (Exit.then e (bodyPostD prog f73 O)) (.panic c) (a.put (S d) v) w->Exit.then K (Exit.then e (bodyPostD prog f73 O)) (.panic c) a w:=λc a w h=>uP j l _ _ _ h
theorem vy{P:Sp.Pg}{E u:Sp.Ev}{Es:List Sp.Ed}{O:Ending->V5->Prop}{t:Sp.Tn}(y:EA (Sp.ie P E Es) w=O)(ht:Sp.ie P E Es=S t)(l:mH w W u t.value b t.gx t.lE)(z:W.ownsRow (w.heap.size+1+1+1) 2 1 b t.dZ.length (t.dZ.map λm=>Z Y m.2))(hb:b.oneCell'=We):∀tmps:Array V6,tmps[6]?=S (V9 (S ⟨w.heap.size+1,0,U⟩))->tmps[7]?=S (V9 (S ⟨w.heap.size+1+1,0,U⟩))->
   Leaves prog f73 tmps O [SA w] .returning (W.setCell ⟨w.heap.size+1+1,0,U⟩ (Wa We)):=by
 intro tmps A B;have r:=l.tu.ne;have C:eO (W.setCell ⟨w.heap.size+1+1,0,U⟩ (Wa We)) (w.heap.size+1) (w.heap.size+1+1) t.value b t.gx t.lE We:=⟨(dA (λe=>r e.symm)).trans l.tu.c0,(dA (λe=>r e.symm)).trans l.tu.c1,(dA (λe=>r e.symm)).trans l.tu.c2,(dA (λe=>r e.symm)).trans l.tu.c3,T0 _ _ _ l.tu.ck,λj=>(TX _ _ _ _).trans (l.tu.fz j),(TX _ _ _ _).trans l.tu.fk,r⟩
 refine Hf A B C hb ?_;rw[<-y,ht];refine⟨l.lJ.setCell (p:=⟨w.heap.size+1+1,0,U⟩) (by show w.heap.size<=w.heap.size+1+1;omega) _,b,rfl,?_⟩;exact fB (TA z (a:=⟨w.heap.size+1+1,0,U⟩) (by show w.heap.size+1+1<w.heap.size+1+1+1;omega) (Wa We)) (by omega)
theorem J3(B:Nat)(P:Sp.Pg)(E:Sp.Ev)(q:Int)(Es:List Sp.Ed)(pe:Option Addr)(cap:Nat)(z f:Addr)(w:V5)(hp:jH w B P)(he:j6 w z f)(hE:Sp.nE E)(hold:E.xB=E.value)(ax:gh w pe Es)(hn:∀x∈Es,Sp.i64 x.n)(hl:Es.length<=1000):V7 prog 73 #[V9 (S ⟨B,0,U⟩),mZ (E.iW q),J pe Es.length cap] w (EA (Sp.ie P E Es) w):=by
 have aJ:∀(fn:Go.Fn) (first cap:Array V6) (w:V5),(Instr.makeFunc fn first cap).run prog w=.ok (.func fn first cap) w:=λ_ _ _ _=>O
 have s:Hid (∀(args:Array V6) (w:V5),(callFunc 115 args).run prog w=.ok (.enter 115 args) w):=da func115 (by kernel_rfl) (by kernel_rfl);have o:=cU (And.intro hp (And.intro he (And.intro hE (And.intro ax hn))));have aK:=hp.lt;generalize hO:EA (Sp.ie P E Es) w=l;replace hO:=cU hO;have p:Hid (∀W,W=((w.alloc (D #[Z Y (E.iW q).value,Z Y (E.iW q).jf,Z Y (E.iW q).iH,Z Y (E.iW q).step,Z Y (E.iW q).id,Z Y (E.iW q).deg,Z Y (E.iW q).all,Z Y (E.iW q).value,Z Y (E.iW q).weight] 165)).alloc (D #[Z Y 0,J U 0 0,Wa Wg,Z Y 0] 167)).alloc (D #[Wa Wg] 4)->mH w W E 0 (J U 0 0) Wg 0):=by
  show ∀W,_
  rintro W rfl;have au:=TK w (D #[Z Y (E.iW q).value,Z Y (E.iW q).jf,Z Y (E.iW q).iH,Z Y (E.iW q).step,Z Y (E.iW q).id,Z Y (E.iW q).deg,Z Y (E.iW q).all,Z Y (E.iW q).value,Z Y (E.iW q).weight] 165);generalize ay:w.alloc _=W1 at *;have hS:W1.heap[w.heap.size]?=S (D #[Z Y (E.iW q).value,Z Y (E.iW q).jf,Z Y (E.iW q).iH,Z Y (E.iW q).step,Z Y (E.iW q).id,Z Y (E.iW q).deg,Z Y (E.iW q).all,Z Y (E.iW q).value,Z Y (E.iW q).weight] 165):=by rw[<-ay];exact Tk w _
  have r:V4 w W1:=by rw[<-ay];exact V3.alloc V2 _
  have az:=TK W1 (D #[Z Y 0,J U 0 0,Wa Wg,Z Y 0] 167);have hT:=Tk W1 (D #[Z Y 0,J U 0 0,Wa Wg,Z Y 0] 167);have ae:V4 W1 (W1.alloc (D #[Z Y 0,J U 0 0,Wa Wg,Z Y 0] 167)):=V3.alloc V2 _;generalize W1.alloc _=W2 at *;have u:=Tk W2 (D #[Wa Wg] 4);have av:V4 W2 (W2.alloc (D #[Wa Wg] 4)):=V3.alloc V2 _;generalize W2.alloc _=W3 at *;have aD:W3.heap[w.heap.size]?=_:=(av.block _ (by omega)).trans ((ae.block _ (by omega)).trans hS);have aj:W3.heap[W1.heap.size]?=_:=(av.block _ (by omega)).trans hT;rw[au] at aj;rw[az,au] at u;have aE:ey W3 w.heap.size E:=by
   have h0:=ey.new (E:=E.iW E.value) (t:=165) aD;have e0:E.iW E.value=E:=by
    obtain⟨e1,e2,e3,e4,e5,e6,e7,e8,e9⟩:=E;simp only at hold;subst hold
    rfl
   rw[e0] at h0;exact h0
  refine⟨aE,⟨by simp[Wj,aj],by simp[Wj,aj],by simp[Wj,aj],by simp[Wj,aj],by simp[Wj,u],λj=>by simp[World.frozen?,aj],by simp[World.frozen?,u],by omega⟩,?_⟩;exact(r.trans (ae.mono r.size)).trans (av.mono (by omega))
 clear hp he hE ax hn hold;unfold mZ
 go_enter_defers func73,ntmps73
 go_upto_region 3 with fail;generalize hW:World.alloc _ (D #[Wa Wg] 4)=W;replace p:=cU (cT p W hW.symm);clear hW;obtain⟨g0,aH,k0,ha⟩:=jh (cT o).1 (cT o).2.1 (cT o).2.2.1 (cT p).lJ (i:=0) (by omega);have V:=cU (ha W.drew V3.drew);have y0:=(cT p).si.c0;have y1:=(cT p).si.c1;have y2:=(cT p).si.c2;have y3:=(cT p).si.c3;have y4:=(cT p).si.c4;have y5:=(cT p).si.c5;have y6:=(cT p).si.c6;have y7:=(cT p).si.c7;have y8:=(cT p).si.c8;clear ha;cases y:Sp.ev (P.code 0) E with
 |none =>
  rw[y] at V;have HF:Hid (∀L,V4 w L->l (Wd nX) L):=by
   show ∀L,_
   intro L aa;rw[<-cT hO];have hz:Sp.ie P E Es=U:=by
    unfold Sp.ie;rw[y]
   rw[hz];exact⟨aa,O⟩
  clear y;refine wp_region_any (by kernel_rfl) ?_;change wpAny _ _ _ _ _ _ _ (World.drew _);refine T8 (i:=0) (v := ?_) rfl (by kernel_rfl) (by kernel_rfl) (by kernel_rfl) (by first|exact dK (d:=12) (by decide) (by decide)|exact dF (d:=12) (by decide) (by decide)) (Wh ⟨by rfl,?_⟩) ?_
  rotate_left
  .intro w;go_simp;first|done|with_reducible rfl
  refine T8 (i:=1) (v := ?_) rfl (by kernel_rfl) (by kernel_rfl) (by kernel_rfl) (by first|exact dK (d:=13) (by decide) (by decide)|exact dF (d:=13) (by decide) (by decide)) (Wh ⟨by rfl,?_⟩) ?_
  rotate_left
  .intro w;go_simp;first|done|with_reducible rfl
  refine T8 (i:=2) (v := ?_) rfl (by kernel_rfl) (by kernel_rfl) (by kernel_rfl) (by first|exact dK (d:=14) (by decide) (by decide)|exact dF (d:=14) (by decide) (by decide)) (Wh ⟨by rfl,?_⟩) ?_
  rotate_left
  .intro w;go_simp;first|done|with_reducible rfl
  refine T8 (i:=3) (v := ?_) rfl (by kernel_rfl) (by kernel_rfl) (by kernel_rfl) (by first|exact dK (d:=15) (by decide) (by decide)|exact dF (d:=15) (by decide) (by decide)) (Wh ⟨by rfl,?_⟩) ?_
  rotate_left
  .intro w;go_simp;first|done|with_reducible rfl
  refine T8 (i:=4) (v := ?_) rfl (by kernel_rfl) (by kernel_rfl) (by kernel_rfl) (by first|exact dK (d:=16) (by decide) (by decide)|exact dF (d:=16) (by decide) (by decide)) (Wh ⟨by rfl,?_⟩) ?_
  rotate_left
  .intro w;go_simp;first|done|with_reducible rfl
  refine T9 (rs:=[5,6]) (by kernel_rfl) (by simp) ?_;refine TR O (λK u=>?_) ?_
  .go_simp;refine u _ _ ?_;clear u K;refine T9 (rs:=[6]) (by kernel_rfl) (by simp) ?_;refine TR O (λK u=>?_) Ua;go_simp;refine u _ _ ?_;clear u K;refine T9 (rs:=[7]) (by kernel_rfl) (by simp) ?_;refine TR O (λK u=>?_) Ua;refine du (by rfl) _ _ _ (by rfl) 115 (by rfl) _ (by rfl) (cT s) (cT V) ?_;rintro e M ⟨r,A⟩;obtain⟨ch,rfl⟩:=eQ A;exact fh O O ((cT p).below (V3.drew.trans (r.mono V2))) (cT o).2.1 A (cT HF)
  .refine TR O (λK u=>?_) Ua;go_simp;refine u _ _ ?_;clear u K;refine T9 (rs:=[5]) (by kernel_rfl) (by simp) ?_;refine TR O (λK u=>?_) Ua;go_simp;refine u _ _ ?_;clear u K;refine T9 (rs:=[7]) (by kernel_rfl) (by simp) ?_;refine TR O (λK u=>?_) Ua;refine du (by rfl) _ _ _ (by rfl) 115 (by rfl) _ (by rfl) (cT s) (cT V) ?_;rintro e M ⟨r,A⟩;obtain⟨ch,rfl⟩:=eQ A;exact fh O O ((cT p).below (V3.drew.trans (r.mono V2))) (cT o).2.1 A (cT HF)
 |some v =>
  rw[y] at V;have ab:=cU y;clear y;apply mJ (λL=>∃M,Hid (V4 W M)/\L=M.setCell ⟨w.heap.size+1,0,U⟩ (Z Y v));apply Exists.intro;apply And.intro
  case left =>
   go_region_law (refine du (by rfl) _ _ _ (by rfl) 115 (by rfl) _ (by rfl) (cT s) (cT V) ?_;rintro e M ⟨r,rfl⟩;dsimp only;have G:=(cT p).below (V3.drew.trans (r.mono V2));have k1:=G.tu.c0;have k2:=G.tu.fz 0;replace G:=cU G)
   all_goals exact⟨O,O,M,V3.drew.trans (r.mono V2),O⟩
  case right =>
  rintro L ⟨M,R,rfl⟩;clear y0 y1 y2 y3 y4 y5 y6 y7 y8 k0 V;have Q:=cU (((cT p).below (cT R)).s0 v);clear R;clear p;generalize M.setCell _ _=W1 at Q ⊢;have ak:Hid (Sp.nE (E.j4 v)):=(cT o).2.2.1.j4 (Sp.Fp (cT o).2.2.1 lQ (cT ab));have x0:=(cT Q).tu.c0;have x1:=(cT Q).si.c0;have x2:=(cT Q).si.fz 0;go_upto_region 5 with fail;replace Q:=cU ((cT Q).j4 v);clear x0 x1 x2;generalize W1.setCell _ _=W2 at Q ⊢;obtain⟨g1,aI,k0,ha⟩:=jh (cT o).1 (cT o).2.1 (cT ak) (cT Q).lJ (i:=1) (by omega);have V:=cU (ha W2.drew V3.drew);have y0:=(cT Q).si.c0;have y1:=(cT Q).si.c1;have y2:=(cT Q).si.c2;have y3:=(cT Q).si.c3;have y4:=(cT Q).si.c4;have y5:=(cT Q).si.c5;have y6:=(cT Q).si.c6;have y7:=(cT Q).si.c7;have y8:=(cT Q).si.c8;clear ha;cases y:Sp.ev (P.code 1) (E.j4 v) with
  |none =>
   rw[y] at V;have HF:Hid (∀L,V4 w L->l (Wd nX) L):=by
    show ∀L,_
    intro L aa;rw[<-cT hO];have hz:Sp.ie P E Es=U:=by
     unfold Sp.ie;rw[cT ab];simp only;rw[y]
    rw[hz];exact⟨aa,O⟩
   clear y;refine wp_region_any (by kernel_rfl) ?_;change wpAny _ _ _ _ _ _ _ (World.drew _);refine T8 (i:=0) (v := ?_) rfl (by kernel_rfl) (by kernel_rfl) (by kernel_rfl) (by first|exact dK (d:=24) (by decide) (by decide)|exact dF (d:=24) (by decide) (by decide)) (Wh ⟨by rfl,?_⟩) ?_
   rotate_left
   .intro w;go_simp;first|done|with_reducible rfl
   refine T8 (i:=1) (v := ?_) rfl (by kernel_rfl) (by kernel_rfl) (by kernel_rfl) (by first|exact dK (d:=25) (by decide) (by decide)|exact dF (d:=25) (by decide) (by decide)) (Wh ⟨by rfl,?_⟩) ?_
   rotate_left
   .intro w;go_simp;first|done|with_reducible rfl
   refine T8 (i:=2) (v := ?_) rfl (by kernel_rfl) (by kernel_rfl) (by kernel_rfl) (by first|exact dK (d:=26) (by decide) (by decide)|exact dF (d:=26) (by decide) (by decide)) (Wh ⟨by rfl,?_⟩) ?_
   rotate_left
   .intro w;go_simp;first|done|with_reducible rfl
   refine T8 (i:=3) (v := ?_) rfl (by kernel_rfl) (by kernel_rfl) (by kernel_rfl) (by first|exact dK (d:=27) (by decide) (by decide)|exact dF (d:=27) (by decide) (by decide)) (Wh ⟨by rfl,?_⟩) ?_
   rotate_left
   .intro w;go_simp;first|done|with_reducible rfl
   refine T8 (i:=4) (v := ?_) rfl (by kernel_rfl) (by kernel_rfl) (by kernel_rfl) (by first|exact dK (d:=28) (by decide) (by decide)|exact dF (d:=28) (by decide) (by decide)) (Wh ⟨by rfl,?_⟩) ?_
   rotate_left
   .intro w;go_simp;first|done|with_reducible rfl
   refine T9 (rs:=[5,6]) (by kernel_rfl) (by simp) ?_;refine TR O (λK u=>?_) ?_
   .go_simp;refine u _ _ ?_;clear u K;refine T9 (rs:=[6]) (by kernel_rfl) (by simp) ?_;refine TR O (λK u=>?_) Ua;go_simp;refine u _ _ ?_;clear u K;refine T9 (rs:=[7]) (by kernel_rfl) (by simp) ?_;refine TR O (λK u=>?_) Ua;refine du (by rfl) _ _ _ (by rfl) 115 (by rfl) _ (by rfl) (cT s) (cT V) ?_;rintro e M ⟨r,A⟩;obtain⟨ch,rfl⟩:=eQ A;exact fh O O ((cT Q).below (V3.drew.trans (r.mono V2))) (cT o).2.1 A (cT HF)
   .refine TR O (λK u=>?_) Ua;go_simp;refine u _ _ ?_;clear u K;refine T9 (rs:=[5]) (by kernel_rfl) (by simp) ?_;refine TR O (λK u=>?_) Ua;go_simp;refine u _ _ ?_;clear u K;refine T9 (rs:=[7]) (by kernel_rfl) (by simp) ?_;refine TR O (λK u=>?_) Ua;refine du (by rfl) _ _ _ (by rfl) 115 (by rfl) _ (by rfl) (cT s) (cT V) ?_;rintro e M ⟨r,A⟩;obtain⟨ch,rfl⟩:=eQ A;exact fh O O ((cT Q).below (V3.drew.trans (r.mono V2))) (cT o).2.1 A (cT HF)
  |some goes =>
   rw[y] at V;have af:=cU y;clear y;apply mJ (λL=>∃V1,Hid (V4 W2 V1)/\V1=L);apply Exists.intro;apply And.intro
   case left =>
    go_region_law (refine du (by rfl) _ _ _ (by rfl) 115 (by rfl) _ (by rfl) (cT s) (cT V) ?_;rintro e M ⟨r,rfl⟩;dsimp only;have G:=(cT Q).below (V3.drew.trans (r.mono V2));replace G:=cU G)
    all_goals exact⟨O,O,M,V3.drew.trans (r.mono V2),O⟩
   case right =>
   rintro L ⟨V1,R,rfl⟩;clear y0 y1 y2 y3 y4 y5 y6 y7 y8 k0 V;have F:=cU ((cT Q).below (cT R));clear R;clear Q;have aF:Hid (∀(g:List (Nat × Int)) (b:V6),b.oneCell'=We->(if goes=0 then S [] else Sp.msgs (P.code 2) (E.j4 v) Es)=S g->∀(W3:V5),Hid (mH w W3 (E.j4 v) v b Wg 0)->Hid (W3.ownsRow (w.heap.size+1+1+1) 2 1 b g.length (g.map λm=>Z Y m.2))->True):=λ_ _ _ _ _ _ _=>trivial
   clear aF;by_cases ad:goes=0
   .have ag:Hid ((if goes=0 then S [] else Sp.msgs (P.code 2) (E.j4 v) Es)=S []):=by show _=_;rw[Tg ad]
    have aG:(goes != 0)=Wg:=by simp[ad]
    have HR:Hid (V1.ownsRow (w.heap.size+1+1+1) 2 1 (J U 0 0) ([]:List (Nat × Int)).length (([]:List (Nat × Int)).map λm=>Z Y m.2)):=TH _ _ _ _;clear ad;go_upto_region 7 with fail;obtain⟨g3,aA,k0,ha⟩:=jh (cT o).1 (cT o).2.1 (cT ak) (cT F).lJ (i:=3) (by omega);have V:=cU (ha V1.drew V3.drew);have y0:=(cT F).si.c0;have y1:=(cT F).si.c1;have y2:=(cT F).si.c2;have y3:=(cT F).si.c3;have y4:=(cT F).si.c4;have y5:=(cT F).si.c5;have y6:=(cT F).si.c6;have y7:=(cT F).si.c7;have y8:=(cT F).si.c8;clear ha;cases y:Sp.ev (P.code 3) (E.j4 v) with
    |none =>
     rw[y] at V;have HF:Hid (∀L,V4 w L->l (Wd nX) L):=by
      show ∀L,_
      intro L aa;rw[<-cT hO];have hz:Sp.ie P E Es=U:=by
       unfold Sp.ie;rw[cT ab];simp only;rw[cT af];simp only;rw[cT ag];simp only;unfold Sp.nQ;rw[y]
      rw[hz];exact⟨aa,O⟩
     clear y;refine wp_region_any (by kernel_rfl) ?_;change wpAny _ _ _ _ _ _ _ (World.drew _);refine T8 (i:=0) (v := ?_) rfl (by kernel_rfl) (by kernel_rfl) (by kernel_rfl) (by first|exact dK (d:=38) (by decide) (by decide)|exact dF (d:=38) (by decide) (by decide)) (Wh ⟨by rfl,?_⟩) ?_
     rotate_left
     .intro w;go_simp;first|done|with_reducible rfl
     refine T8 (i:=1) (v := ?_) rfl (by kernel_rfl) (by kernel_rfl) (by kernel_rfl) (by first|exact dK (d:=39) (by decide) (by decide)|exact dF (d:=39) (by decide) (by decide)) (Wh ⟨by rfl,?_⟩) ?_
     rotate_left
     .intro w;go_simp;first|done|with_reducible rfl
     refine T8 (i:=2) (v := ?_) rfl (by kernel_rfl) (by kernel_rfl) (by kernel_rfl) (by first|exact dK (d:=40) (by decide) (by decide)|exact dF (d:=40) (by decide) (by decide)) (Wh ⟨by rfl,?_⟩) ?_
     rotate_left
     .intro w;go_simp;first|done|with_reducible rfl
     refine T8 (i:=3) (v := ?_) rfl (by kernel_rfl) (by kernel_rfl) (by kernel_rfl) (by first|exact dK (d:=41) (by decide) (by decide)|exact dF (d:=41) (by decide) (by decide)) (Wh ⟨by rfl,?_⟩) ?_
     rotate_left
     .intro w;go_simp;first|done|with_reducible rfl
     refine T8 (i:=4) (v := ?_) rfl (by kernel_rfl) (by kernel_rfl) (by kernel_rfl) (by first|exact dK (d:=42) (by decide) (by decide)|exact dF (d:=42) (by decide) (by decide)) (Wh ⟨by rfl,?_⟩) ?_
     rotate_left
     .intro w;go_simp;first|done|with_reducible rfl
     refine T9 (rs:=[5,6]) (by kernel_rfl) (by simp) ?_;refine TR O (λK u=>?_) ?_
     .go_simp;refine u _ _ ?_;clear u K;refine T9 (rs:=[6]) (by kernel_rfl) (by simp) ?_;refine TR O (λK u=>?_) Ua;go_simp;refine u _ _ ?_;clear u K;refine T9 (rs:=[7]) (by kernel_rfl) (by simp) ?_;refine TR O (λK u=>?_) Ua;refine du (by rfl) _ _ _ (by rfl) 115 (by rfl) _ (by rfl) (cT s) (cT V) ?_;rintro e M ⟨r,A⟩;obtain⟨ch,rfl⟩:=eQ A;exact fh O O ((cT F).below (V3.drew.trans (r.mono V2))) (cT o).2.1 A (cT HF)
     .refine TR O (λK u=>?_) Ua;go_simp;refine u _ _ ?_;clear u K;refine T9 (rs:=[5]) (by kernel_rfl) (by simp) ?_;refine TR O (λK u=>?_) Ua;go_simp;refine u _ _ ?_;clear u K;refine T9 (rs:=[7]) (by kernel_rfl) (by simp) ?_;refine TR O (λK u=>?_) Ua;refine du (by rfl) _ _ _ (by rfl) 115 (by rfl) _ (by rfl) (cT s) (cT V) ?_;rintro e M ⟨r,A⟩;obtain⟨ch,rfl⟩:=eQ A;exact fh O O ((cT F).below (V3.drew.trans (r.mono V2))) (cT o).2.1 A (cT HF)
    |some hh =>
     rw[y] at V;have ao:=cU y;clear y;apply mJ (λL=>∃M,Hid (V4 V1 M)/\L=M.setCell ⟨w.heap.size+1,2,U⟩ (Wa (hh != 0)));apply Exists.intro;apply And.intro
     case left =>
      go_region_law (refine du (by rfl) _ _ _ (by rfl) 115 (by rfl) _ (by rfl) (cT s) (cT V) ?_;rintro e M ⟨r,rfl⟩;dsimp only;have G:=(cT F).below (V3.drew.trans (r.mono V2));have k1:=G.tu.c2;have k2:=G.tu.fz 2;replace G:=cU G)
      all_goals exact⟨O,O,M,V3.drew.trans (r.mono V2),O⟩
     case right =>
     rintro L ⟨M,R,rfl⟩;clear y0 y1 y2 y3 y4 y5 y6 y7 y8 k0 V;have C:=cU (((cT F).below (cT R)).s2 (hh != 0));have ah:=cU (TA (de (cT HR) (cT R)) (a:=⟨w.heap.size+1,2,U⟩) (by show w.heap.size+1<w.heap.size+1+1+1;omega) (Wa (hh != 0)));clear R;clear F;generalize M.setCell _ _=W4 at C ah ⊢;go_upto_region 8 with fail;obtain⟨g4,aB,k0,ha⟩:=jh (cT o).1 (cT o).2.1 (cT ak) (cT C).lJ (i:=4) (by omega);have V:=cU (ha W4.drew V3.drew);have y0:=(cT C).si.c0;have y1:=(cT C).si.c1;have y2:=(cT C).si.c2;have y3:=(cT C).si.c3;have y4:=(cT C).si.c4;have y5:=(cT C).si.c5;have y6:=(cT C).si.c6;have y7:=(cT C).si.c7;have y8:=(cT C).si.c8;clear ha;cases y:Sp.ev (P.code 4) (E.j4 v) with
     |none =>
      rw[y] at V;have HF:Hid (∀L,V4 w L->l (Wd nX) L):=by
       show ∀L,_
       intro L aa;rw[<-cT hO];have hz:Sp.ie P E Es=U:=by
        unfold Sp.ie;rw[cT ab];simp only;rw[cT af];simp only;rw[cT ag];simp only;unfold Sp.nQ;rw[cT ao];simp only;rw[y]
       rw[hz];exact⟨aa,O⟩
      clear y;refine wp_region_any (by kernel_rfl) ?_;change wpAny _ _ _ _ _ _ _ (World.drew _);refine T8 (i:=0) (v := ?_) rfl (by kernel_rfl) (by kernel_rfl) (by kernel_rfl) (by first|exact dK (d:=48) (by decide) (by decide)|exact dF (d:=48) (by decide) (by decide)) (Wh ⟨by rfl,?_⟩) ?_
      rotate_left
      .intro w;go_simp;first|done|with_reducible rfl
      refine T8 (i:=1) (v := ?_) rfl (by kernel_rfl) (by kernel_rfl) (by kernel_rfl) (by first|exact dK (d:=49) (by decide) (by decide)|exact dF (d:=49) (by decide) (by decide)) (Wh ⟨by rfl,?_⟩) ?_
      rotate_left
      .intro w;go_simp;first|done|with_reducible rfl
      refine T8 (i:=2) (v := ?_) rfl (by kernel_rfl) (by kernel_rfl) (by kernel_rfl) (by first|exact dK (d:=50) (by decide) (by decide)|exact dF (d:=50) (by decide) (by decide)) (Wh ⟨by rfl,?_⟩) ?_
      rotate_left
      .intro w;go_simp;first|done|with_reducible rfl
      refine T8 (i:=3) (v := ?_) rfl (by kernel_rfl) (by kernel_rfl) (by kernel_rfl) (by first|exact dK (d:=51) (by decide) (by decide)|exact dF (d:=51) (by decide) (by decide)) (Wh ⟨by rfl,?_⟩) ?_
      rotate_left
      .intro w;go_simp;first|done|with_reducible rfl
      refine T8 (i:=4) (v := ?_) rfl (by kernel_rfl) (by kernel_rfl) (by kernel_rfl) (by first|exact dK (d:=52) (by decide) (by decide)|exact dF (d:=52) (by decide) (by decide)) (Wh ⟨by rfl,?_⟩) ?_
      rotate_left
      .intro w;go_simp;first|done|with_reducible rfl
      refine T9 (rs:=[5,6]) (by kernel_rfl) (by simp) ?_;refine TR O (λK u=>?_) ?_
      .go_simp;refine u _ _ ?_;clear u K;refine T9 (rs:=[6]) (by kernel_rfl) (by simp) ?_;refine TR O (λK u=>?_) Ua;go_simp;refine u _ _ ?_;clear u K;refine T9 (rs:=[7]) (by kernel_rfl) (by simp) ?_;refine TR O (λK u=>?_) Ua;refine du (by rfl) _ _ _ (by rfl) 115 (by rfl) _ (by rfl) (cT s) (cT V) ?_;rintro e M ⟨r,A⟩;obtain⟨ch,rfl⟩:=eQ A;exact fh O O ((cT C).below (V3.drew.trans (r.mono V2))) (cT o).2.1 A (cT HF)
      .refine TR O (λK u=>?_) Ua;go_simp;refine u _ _ ?_;clear u K;refine T9 (rs:=[5]) (by kernel_rfl) (by simp) ?_;refine TR O (λK u=>?_) Ua;go_simp;refine u _ _ ?_;clear u K;refine T9 (rs:=[7]) (by kernel_rfl) (by simp) ?_;refine TR O (λK u=>?_) Ua;refine du (by rfl) _ _ _ (by rfl) 115 (by rfl) _ (by rfl) (cT s) (cT V) ?_;rintro e M ⟨r,A⟩;obtain⟨ch,rfl⟩:=eQ A;exact fh O O ((cT C).below (V3.drew.trans (r.mono V2))) (cT o).2.1 A (cT HF)
     |some gg =>
      rw[y] at V;have aw:=cU y;clear y;apply mJ (λL=>∃M,Hid (V4 W4 M)/\L=M.setCell ⟨w.heap.size+1,3,U⟩ (Z Y gg));apply Exists.intro;apply And.intro
      case left =>
       go_region_law (refine du (by rfl) _ _ _ (by rfl) 115 (by rfl) _ (by rfl) (cT s) (cT V) ?_;rintro e M ⟨r,rfl⟩;dsimp only;have G:=(cT C).below (V3.drew.trans (r.mono V2));have k1:=G.tu.c3;have k2:=G.tu.fz 3;replace G:=cU G)
       all_goals exact⟨O,O,M,V3.drew.trans (r.mono V2),O⟩
      case right =>
      rintro L ⟨M,R,rfl⟩;clear y0 y1 y2 y3 y4 y5 y6 y7 y8 k0 V;have I:=cU (((cT C).below (cT R)).s3 gg);have ai:=cU (TA (de (cT ah) (cT R)) (a:=⟨w.heap.size+1,3,U⟩) (by show w.heap.size+1<w.heap.size+1+1+1;omega) (Z Y gg));clear R;clear C ah;generalize M.setCell _ _=W5 at I ai ⊢;have aq:=cU (vy (cT hO) (t:=⟨v,hh != 0,gg,[]⟩) (by
       unfold Sp.ie;rw[cT ab];simp only;rw[cT af];simp only;rw[cT ag];simp only;unfold Sp.nQ;rw[cT ao];simp only;rw[cT aw]
      ) (((((cT I).s0 v).s1 (J U 0 0)).s2 (hh != 0)).s3 gg) (TA (TA (TA (TA (cT ai) (a:=⟨w.heap.size+1,0,U⟩) (by show w.heap.size+1<w.heap.size+1+1+1;omega) (Z Y v)) (a:=⟨w.heap.size+1,1,U⟩) (by show w.heap.size+1<w.heap.size+1+1+1;omega) (J U 0 0)) (a:=⟨w.heap.size+1,2,U⟩) (by show w.heap.size+1<w.heap.size+1+1+1;omega) (Wa (hh != 0))) (a:=⟨w.heap.size+1,3,U⟩) (by show w.heap.size+1<w.heap.size+1+1+1;omega) (Z Y gg)) O)
      have x0:=(cT I).tu.c0;have x1:=(cT I).tu.c1;have x2:=(cT I).tu.c2;have x3:=(cT I).tu.c3;have x4:=(cT I).tu.ck;have x5:=(cT I).tu.fz 0;have x6:=(cT I).tu.fz 1;have x7:=(cT I).tu.fz 2;have x8:=(cT I).tu.fz 3;have x9:=(cT I).tu.fk;clear I ai;go_wp2;exact cT aq _ O O
   .have aG:(goes != 0)=We:=by simp[ad]
    have HM:Hid (V7 prog 116 #[V9 (S ⟨B,0,U⟩),mZ (E.j4 v),J pe Es.length cap] V1 (ve (Sp.msgs (P.code 2) (E.j4 v) Es) z f V1)):=by
     have hb:=(cT F).lJ;exact zH B P (E.j4 v) Es pe cap z f V1 ((cT o).1.below hb) ((cT o).2.1.below hb) (cT ak) ((cT o).2.2.2.1.below hb) (cT o).2.2.2.2 hl
    have y0:=(cT F).si.c0;have y1:=(cT F).si.c1;have y2:=(cT F).si.c2;have y3:=(cT F).si.c3;have y4:=(cT F).si.c4;have y5:=(cT F).si.c5;have y6:=(cT F).si.c6;have y7:=(cT F).si.c7;have y8:=(cT F).si.c8;cases an:Sp.msgs (P.code 2) (E.j4 v) Es with
    |none =>
     rw[an] at HM;have HF:Hid (∀L,V4 w L->l (Wd nX) L):=by
      show ∀L,_
      intro L aa;rw[<-cT hO];have hz:Sp.ie P E Es=U:=by
       unfold Sp.ie;rw[cT ab];simp only;rw[cT af];simp only;rw[Tf ad,an]
      rw[hz];exact⟨aa,O⟩
     clear an ad;go_wp2_with fail;refine(cT HM).mono ?_;rintro e w2 ⟨ae,A⟩;obtain⟨ch,rfl⟩:=eQ A;exact fh O O ((cT F).below ae) (cT o).2.1 A (cT HF)
    |some g =>
     rw[an] at HM;have ag:Hid ((if goes=0 then S [] else Sp.msgs (P.code 2) (E.j4 v) Es)=S g):=by show _=_;rw[Tf ad,an]
     clear an ad;go_wp2_with fail;refine(cT HM).mono ?_;rintro e w2 ⟨ae,b,rfl,ar⟩;have aC:w.heap.size+1+1+1<=V1.heap.size:=(cT F).tu.SL;have X:=cU ((cT F).below ae);have HR:=cU (TA (fB ar aC) (a:=⟨w.heap.size+1,1,U⟩) (by show w.heap.size+1<w.heap.size+1+1+1;omega) b);obtain⟨pb,kb,rfl,_⟩:=dm ar;have k1:=(cT X).tu.c1;have k2:=(cT X).tu.fz 1;clear F HM y0 y1 y2 y3 y4 y5 y6 y7 y8 ar ae aC;go_upto_region 7 with fail;replace X:=cU ((cT X).s1 (J pb g.length kb));clear k1 k2;generalize w2.setCell _ _=W3 at X HR ⊢;obtain⟨g3,aA,k0,ha⟩:=jh (cT o).1 (cT o).2.1 (cT ak) (cT X).lJ (i:=3) (by omega);have V:=cU (ha W3.drew V3.drew);have y0:=(cT X).si.c0;have y1:=(cT X).si.c1;have y2:=(cT X).si.c2;have y3:=(cT X).si.c3;have y4:=(cT X).si.c4;have y5:=(cT X).si.c5;have y6:=(cT X).si.c6;have y7:=(cT X).si.c7;have y8:=(cT X).si.c8;clear ha;cases y:Sp.ev (P.code 3) (E.j4 v) with
     |none =>
      rw[y] at V;have HF:Hid (∀L,V4 w L->l (Wd nX) L):=by
       show ∀L,_
       intro L aa;rw[<-cT hO];have hz:Sp.ie P E Es=U:=by
        unfold Sp.ie;rw[cT ab];simp only;rw[cT af];simp only;rw[cT ag];simp only;unfold Sp.nQ;rw[y]
       rw[hz];exact⟨aa,O⟩
      clear y;refine wp_region_any (by kernel_rfl) ?_;change wpAny _ _ _ _ _ _ _ (World.drew _);refine T8 (i:=0) (v := ?_) rfl (by kernel_rfl) (by kernel_rfl) (by kernel_rfl) (by first|exact dK (d:=38) (by decide) (by decide)|exact dF (d:=38) (by decide) (by decide)) (Wh ⟨by rfl,?_⟩) ?_
      rotate_left
      .intro w;go_simp;first|done|with_reducible rfl
      refine T8 (i:=1) (v := ?_) rfl (by kernel_rfl) (by kernel_rfl) (by kernel_rfl) (by first|exact dK (d:=39) (by decide) (by decide)|exact dF (d:=39) (by decide) (by decide)) (Wh ⟨by rfl,?_⟩) ?_
      rotate_left
      .intro w;go_simp;first|done|with_reducible rfl
      refine T8 (i:=2) (v := ?_) rfl (by kernel_rfl) (by kernel_rfl) (by kernel_rfl) (by first|exact dK (d:=40) (by decide) (by decide)|exact dF (d:=40) (by decide) (by decide)) (Wh ⟨by rfl,?_⟩) ?_
      rotate_left
      .intro w;go_simp;first|done|with_reducible rfl
      refine T8 (i:=3) (v := ?_) rfl (by kernel_rfl) (by kernel_rfl) (by kernel_rfl) (by first|exact dK (d:=41) (by decide) (by decide)|exact dF (d:=41) (by decide) (by decide)) (Wh ⟨by rfl,?_⟩) ?_
      rotate_left
      .intro w;go_simp;first|done|with_reducible rfl
      refine T8 (i:=4) (v := ?_) rfl (by kernel_rfl) (by kernel_rfl) (by kernel_rfl) (by first|exact dK (d:=42) (by decide) (by decide)|exact dF (d:=42) (by decide) (by decide)) (Wh ⟨by rfl,?_⟩) ?_
      rotate_left
      .intro w;go_simp;first|done|with_reducible rfl
      refine T9 (rs:=[5,6]) (by kernel_rfl) (by simp) ?_;refine TR O (λK u=>?_) ?_
      .go_simp;refine u _ _ ?_;clear u K;refine T9 (rs:=[6]) (by kernel_rfl) (by simp) ?_;refine TR O (λK u=>?_) Ua;go_simp;refine u _ _ ?_;clear u K;refine T9 (rs:=[7]) (by kernel_rfl) (by simp) ?_;refine TR O (λK u=>?_) Ua;refine du (by rfl) _ _ _ (by rfl) 115 (by rfl) _ (by rfl) (cT s) (cT V) ?_;rintro e M ⟨r,A⟩;obtain⟨ch,rfl⟩:=eQ A;exact fh O O ((cT X).below (V3.drew.trans (r.mono V2))) (cT o).2.1 A (cT HF)
      .refine TR O (λK u=>?_) Ua;go_simp;refine u _ _ ?_;clear u K;refine T9 (rs:=[5]) (by kernel_rfl) (by simp) ?_;refine TR O (λK u=>?_) Ua;go_simp;refine u _ _ ?_;clear u K;refine T9 (rs:=[7]) (by kernel_rfl) (by simp) ?_;refine TR O (λK u=>?_) Ua;refine du (by rfl) _ _ _ (by rfl) 115 (by rfl) _ (by rfl) (cT s) (cT V) ?_;rintro e M ⟨r,A⟩;obtain⟨ch,rfl⟩:=eQ A;exact fh O O ((cT X).below (V3.drew.trans (r.mono V2))) (cT o).2.1 A (cT HF)
     |some hh =>
      rw[y] at V;have ao:=cU y;clear y;apply mJ (λL=>∃M,Hid (V4 W3 M)/\L=M.setCell ⟨w.heap.size+1,2,U⟩ (Wa (hh != 0)));apply Exists.intro;apply And.intro
      case left =>
       go_region_law (refine du (by rfl) _ _ _ (by rfl) 115 (by rfl) _ (by rfl) (cT s) (cT V) ?_;rintro e M ⟨r,rfl⟩;dsimp only;have G:=(cT X).below (V3.drew.trans (r.mono V2));have k1:=G.tu.c2;have k2:=G.tu.fz 2;replace G:=cU G)
       all_goals exact⟨O,O,M,V3.drew.trans (r.mono V2),O⟩
      case right =>
      rintro L ⟨M,R,rfl⟩;clear y0 y1 y2 y3 y4 y5 y6 y7 y8 k0 V;have C:=cU (((cT X).below (cT R)).s2 (hh != 0));have ah:=cU (TA (de (cT HR) (cT R)) (a:=⟨w.heap.size+1,2,U⟩) (by show w.heap.size+1<w.heap.size+1+1+1;omega) (Wa (hh != 0)));clear R;clear X;generalize M.setCell _ _=W4 at C ah ⊢;go_upto_region 8 with fail;obtain⟨g4,aB,k0,ha⟩:=jh (cT o).1 (cT o).2.1 (cT ak) (cT C).lJ (i:=4) (by omega);have V:=cU (ha W4.drew V3.drew);have y0:=(cT C).si.c0;have y1:=(cT C).si.c1;have y2:=(cT C).si.c2;have y3:=(cT C).si.c3;have y4:=(cT C).si.c4;have y5:=(cT C).si.c5;have y6:=(cT C).si.c6;have y7:=(cT C).si.c7;have y8:=(cT C).si.c8;clear ha;cases y:Sp.ev (P.code 4) (E.j4 v) with
      |none =>
       rw[y] at V;have HF:Hid (∀L,V4 w L->l (Wd nX) L):=by
        show ∀L,_
        intro L aa;rw[<-cT hO];have hz:Sp.ie P E Es=U:=by
         unfold Sp.ie;rw[cT ab];simp only;rw[cT af];simp only;rw[cT ag];simp only;unfold Sp.nQ;rw[cT ao];simp only;rw[y]
        rw[hz];exact⟨aa,O⟩
       clear y;refine wp_region_any (by kernel_rfl) ?_;change wpAny _ _ _ _ _ _ _ (World.drew _);refine T8 (i:=0) (v := ?_) rfl (by kernel_rfl) (by kernel_rfl) (by kernel_rfl) (by first|exact dK (d:=48) (by decide) (by decide)|exact dF (d:=48) (by decide) (by decide)) (Wh ⟨by rfl,?_⟩) ?_
       rotate_left
       .intro w;go_simp;first|done|with_reducible rfl
       refine T8 (i:=1) (v := ?_) rfl (by kernel_rfl) (by kernel_rfl) (by kernel_rfl) (by first|exact dK (d:=49) (by decide) (by decide)|exact dF (d:=49) (by decide) (by decide)) (Wh ⟨by rfl,?_⟩) ?_
       rotate_left
       .intro w;go_simp;first|done|with_reducible rfl
       refine T8 (i:=2) (v := ?_) rfl (by kernel_rfl) (by kernel_rfl) (by kernel_rfl) (by first|exact dK (d:=50) (by decide) (by decide)|exact dF (d:=50) (by decide) (by decide)) (Wh ⟨by rfl,?_⟩) ?_
       rotate_left
       .intro w;go_simp;first|done|with_reducible rfl
       refine T8 (i:=3) (v := ?_) rfl (by kernel_rfl) (by kernel_rfl) (by kernel_rfl) (by first|exact dK (d:=51) (by decide) (by decide)|exact dF (d:=51) (by decide) (by decide)) (Wh ⟨by rfl,?_⟩) ?_
       rotate_left
       .intro w;go_simp;first|done|with_reducible rfl
       refine T8 (i:=4) (v := ?_) rfl (by kernel_rfl) (by kernel_rfl) (by kernel_rfl) (by first|exact dK (d:=52) (by decide) (by decide)|exact dF (d:=52) (by decide) (by decide)) (Wh ⟨by rfl,?_⟩) ?_
       rotate_left
       .intro w;go_simp;first|done|with_reducible rfl
       refine T9 (rs:=[5,6]) (by kernel_rfl) (by simp) ?_;refine TR O (λK u=>?_) ?_
       .go_simp;refine u _ _ ?_;clear u K;refine T9 (rs:=[6]) (by kernel_rfl) (by simp) ?_;refine TR O (λK u=>?_) Ua;go_simp;refine u _ _ ?_;clear u K;refine T9 (rs:=[7]) (by kernel_rfl) (by simp) ?_;refine TR O (λK u=>?_) Ua;refine du (by rfl) _ _ _ (by rfl) 115 (by rfl) _ (by rfl) (cT s) (cT V) ?_;rintro e M ⟨r,A⟩;obtain⟨ch,rfl⟩:=eQ A;exact fh O O ((cT C).below (V3.drew.trans (r.mono V2))) (cT o).2.1 A (cT HF)
       .refine TR O (λK u=>?_) Ua;go_simp;refine u _ _ ?_;clear u K;refine T9 (rs:=[5]) (by kernel_rfl) (by simp) ?_;refine TR O (λK u=>?_) Ua;go_simp;refine u _ _ ?_;clear u K;refine T9 (rs:=[7]) (by kernel_rfl) (by simp) ?_;refine TR O (λK u=>?_) Ua;refine du (by rfl) _ _ _ (by rfl) 115 (by rfl) _ (by rfl) (cT s) (cT V) ?_;rintro e M ⟨r,A⟩;obtain⟨ch,rfl⟩:=eQ A;exact fh O O ((cT C).below (V3.drew.trans (r.mono V2))) (cT o).2.1 A (cT HF)
      |some gg =>
       rw[y] at V;have aw:=cU y;clear y;apply mJ (λL=>∃M,Hid (V4 W4 M)/\L=M.setCell ⟨w.heap.size+1,3,U⟩ (Z Y gg));apply Exists.intro;apply And.intro
       case left =>
        go_region_law (refine du (by rfl) _ _ _ (by rfl) 115 (by rfl) _ (by rfl) (cT s) (cT V) ?_;rintro e M ⟨r,rfl⟩;dsimp only;have G:=(cT C).below (V3.drew.trans (r.mono V2));have k1:=G.tu.c3;have k2:=G.tu.fz 3;replace G:=cU G)
        all_goals exact⟨O,O,M,V3.drew.trans (r.mono V2),O⟩
       case right =>
       rintro L ⟨M,R,rfl⟩;clear y0 y1 y2 y3 y4 y5 y6 y7 y8 k0 V;have I:=cU (((cT C).below (cT R)).s3 gg);have ai:=cU (TA (de (cT ah) (cT R)) (a:=⟨w.heap.size+1,3,U⟩) (by show w.heap.size+1<w.heap.size+1+1+1;omega) (Z Y gg));clear R;clear C ah;generalize M.setCell _ _=W5 at I ai ⊢;have aq:=cU (vy (cT hO) (t:=⟨v,hh != 0,gg,g⟩) (by
        unfold Sp.ie;rw[cT ab];simp only;rw[cT af];simp only;rw[cT ag];simp only;unfold Sp.nQ;rw[cT ao];simp only;rw[cT aw]
       ) (((((cT I).s0 v).s1 (J pb g.length kb)).s2 (hh != 0)).s3 gg) (TA (TA (TA (TA (cT ai) (a:=⟨w.heap.size+1,0,U⟩) (by show w.heap.size+1<w.heap.size+1+1+1;omega) (Z Y v)) (a:=⟨w.heap.size+1,1,U⟩) (by show w.heap.size+1<w.heap.size+1+1+1;omega) (J pb g.length kb)) (a:=⟨w.heap.size+1,2,U⟩) (by show w.heap.size+1<w.heap.size+1+1+1;omega) (Wa (hh != 0))) (a:=⟨w.heap.size+1,3,U⟩) (by show w.heap.size+1<w.heap.size+1+1+1;omega) (Z Y gg)) O)
       have x0:=(cT I).tu.c0;have x1:=(cT I).tu.c1;have x2:=(cT I).tu.c2;have x3:=(cT I).tu.c3;have x4:=(cT I).tu.ck;have x5:=(cT I).tu.fz 0;have x6:=(cT I).tu.fz 1;have x7:=(cT I).tu.fz 2;have x8:=(cT I).tu.fz 3;have x9:=(cT I).tu.fk;clear I ai;go_wp2;exact cT aq _ O O
end
end Go.Proofs.YtgkkdpegcieakaaGreatDoor
