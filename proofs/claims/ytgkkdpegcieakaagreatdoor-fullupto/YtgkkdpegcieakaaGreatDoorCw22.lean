import Derived.Test.YtgkkdpegcieakaaGreatDoorCw14
set_option linter.all false
set_option maxRecDepth 100000
set_option maxHeartbeats 16000000
namespace Go.Proofs.YtgkkdpegcieakaaGreatDoor
open Go.Proofs.Tryz
open Value renaming int→Z,slice→J,pointer→WV,bool→WW,tuple→WX,agg→WY
open Ending renaming returned→WZ
open Obj renaming cells→D
open Option renaming none→U,some→S
open Bool renaming true→W8,false→W9
open Or renaming inl→Xa
open _root_.Array renaming size→K
open World renaming cell?→Xc,heap→E
open IntKind renaming i64→Y
open Go renaming World→WR,Value→WS,Calls→WT
section
open Go.RowKit
def Fz(o:Option Sp.Tn)(w:WR)(e:Ending)(w':WR):Prop:=WQ w w'/\match o with
  |some t=>∃v,e=WZ (WX #[WY #[Z Y t.value,v,WW t.gz,Z Y t.lG],WW W8])/\w'.ownsRow (K (E w)) 2 1 v t.dX.length (t.dX.map λm=>Z Y m.2)
  |none=>e=WZ (WX #[WY #[Z Y 0,J U 0 0,WW W9,Z Y 0],WW W9])
structure mG (w W:WR) (E:Sp.Ev) (a:Int) (b:WS) (c:Bool) (d:Int):Prop where
 si:ep W w.heap.size E
 tu:eN W (w.heap.size+1) (w.heap.size+1+1) a b c d W9
 lJ:WQ w W
variable {c k:Bool}{T:Nat}{a d:Int}{w:WR}{b:WS}
theorem eN.Sb{K:Nat}(h:eN w T K a b c d k): T<w.heap.size:=Ui w _ h.c0
theorem eN.S7{K:Nat}(h:eN w T K a b c d k): K<w.heap.size:=Ui w _ h.ck
theorem eN.below{w':WR}{K:Nat}(h:eN w T K a b c d k)(hb:WQ w w'): eN w' T K a b c d k:=⟨(hb.cell (p:=⟨T,0,U⟩) h.Sb).trans h.c0,(hb.cell (p:=⟨T,1,U⟩) h.Sb).trans h.c1,(hb.cell (p:=⟨T,2,U⟩) h.Sb).trans h.c2,(hb.cell (p:=⟨T,3,U⟩) h.Sb).trans h.c3,(hb.cell (p:=⟨K,0,U⟩) h.S7).trans h.ck,λj=>(hb.frozen (p:=⟨T,j,U⟩) h.Sb).trans (h.fz j),(hb.frozen (p:=⟨K,0,U⟩) h.S7).trans h.fk,h.ne⟩
variable {W:WR}
theorem mG.below{e:WR}{E:Sp.Ev}(h:mG w W E a b c d)(hb:WQ W e): mG w e E a b c d:=⟨h.si.below hb,h.tu.below hb,h.lJ.trans (hb.mono h.lJ.size)⟩
variable {i:Nat}{v:WS}
theorem dC{a b j:Nat}(h:a≠b): (W.setCell ⟨a,i,U⟩ v).cell? ⟨b,j,U⟩=W.cell? ⟨b,j,U⟩:=UD W ⟨a,i,U⟩ ⟨b,j,U⟩ v (by intro e;injection e with e _;exact h e)
theorem ep.other{e a:Nat}{E:Sp.Ev}(h:ep W e E)(l:a≠e): ep (W.setCell ⟨a,i,U⟩ v) e E:=h.far (λj=>dC l) (λj=>UK _ _ _ _)
theorem eN.other{K q:Nat}(h:eN W T K a b c d k)(h1:q≠T)(h2:q≠K): eN (W.setCell ⟨q,i,U⟩ v) T K a b c d k:=⟨(dC h1).trans h.c0,(dC h1).trans h.c1,(dC h1).trans h.c2,(dC h1).trans h.c3,(dC h2).trans h.ck,λj=>(UK _ _ _ _).trans (h.fz j),(UK _ _ _ _).trans h.fk,h.ne⟩
theorem eN.s0{K:Nat}(h:eN W T K a b c d k)(x:Int): eN (W.setCell ⟨T,0,U⟩ (Z Y x)) T K x b c d k:=⟨UN _ _ _ h.c0,(cW (by omega)).trans h.c1,(cW (by omega)).trans h.c2,(cW (by omega)).trans h.c3,(dC h.ne).trans h.ck,λj=>(UK _ _ _ _).trans (h.fz j),(UK _ _ _ _).trans h.fk,h.ne⟩
theorem eN.s1{K:Nat}(h:eN W T K a b c d k)(x:WS): eN (W.setCell ⟨T,1,U⟩ x) T K a x c d k:=⟨(cW (by omega)).trans h.c0,UN _ _ _ h.c1,(cW (by omega)).trans h.c2,(cW (by omega)).trans h.c3,(dC h.ne).trans h.ck,λj=>(UK _ _ _ _).trans (h.fz j),(UK _ _ _ _).trans h.fk,h.ne⟩
theorem eN.s2{K:Nat}(h:eN W T K a b c d k)(x:Bool): eN (W.setCell ⟨T,2,U⟩ (WW x)) T K a b x d k:=⟨(cW (by omega)).trans h.c0,(cW (by omega)).trans h.c1,UN _ _ _ h.c2,(cW (by omega)).trans h.c3,(dC h.ne).trans h.ck,λj=>(UK _ _ _ _).trans (h.fz j),(UK _ _ _ _).trans h.fk,h.ne⟩
theorem eN.s3{K:Nat}(h:eN W T K a b c d k)(x:Int): eN (W.setCell ⟨T,3,U⟩ (Z Y x)) T K a b c x k:=⟨(cW (by omega)).trans h.c0,(cW (by omega)).trans h.c1,(cW (by omega)).trans h.c2,UN _ _ _ h.c3,(dC h.ne).trans h.ck,λj=>(UK _ _ _ _).trans (h.fz j),(UK _ _ _ _).trans h.fk,h.ne⟩
theorem ep.j4{e:Nat}{E:Sp.Ev}(h:ep w e E)(v:Int): ep (w.setCell ⟨e,0,U⟩ (Z Y v)) e (E.j4 v):=by
 have l:∀j,j≠0->(w.setCell ⟨e,0,U⟩ (Z Y v)).cell? ⟨e,j,U⟩=w.cell? ⟨e,j,U⟩:=λj m=>cW (by omega)
 exact⟨UN _ _ _ h.c0,(l _ (by omega)).trans h.c1,(l _ (by omega)).trans h.c2,(l _ (by omega)).trans h.c3,(l _ (by omega)).trans h.c4,(l _ (by omega)).trans h.c5,(l _ (by omega)).trans h.c6,(l _ (by omega)).trans h.c7,(l _ (by omega)).trans h.c8,λj=>(UK _ _ _ _).trans (h.fz j)⟩
theorem mG.j4{E:Sp.Ev}(h:mG w W E a b c d)(v:Int): mG w (W.setCell ⟨w.heap.size,0,U⟩ (Z Y v)) (E.j4 v) a b c d:=⟨h.si.j4 v,h.tu.other (by omega) (by omega),h.lJ.setCell (p:=⟨w.heap.size,0,U⟩) WN _⟩
theorem mG.s0{E:Sp.Ev}(h:mG w W E a b c d)(x:Int): mG w (W.setCell ⟨w.heap.size+1,0,U⟩ (Z Y x)) E x b c d:=⟨h.si.other (by omega),h.tu.s0 x,h.lJ.setCell (p:=⟨w.heap.size+1,0,U⟩) (U0 _) _⟩
theorem mG.s1{E:Sp.Ev}(h:mG w W E a b c d)(x:WS): mG w (W.setCell ⟨w.heap.size+1,1,U⟩ x) E a x c d:=⟨h.si.other (by omega),h.tu.s1 x,h.lJ.setCell (p:=⟨w.heap.size+1,1,U⟩) (U0 _) _⟩
theorem mG.s2{E:Sp.Ev}(h:mG w W E a b c d)(x:Bool): mG w (W.setCell ⟨w.heap.size+1,2,U⟩ (WW x)) E a b x d:=⟨h.si.other (by omega),h.tu.s2 x,h.lJ.setCell (p:=⟨w.heap.size+1,2,U⟩) (U0 _) _⟩
theorem mG.s3{E:Sp.Ev}(h:mG w W E a b c d)(x:Int): mG w (W.setCell ⟨w.heap.size+1,3,U⟩ (Z Y x)) E a b c x:=⟨h.si.other (by omega),h.tu.s3 x,h.lJ.setCell (p:=⟨w.heap.size+1,3,U⟩) (U0 _) _⟩
theorem zd{K:Nat}(h:WQ w W)(e:w.heap.size<=T)(j:w.heap.size<=K): WQ w (oX W T K):=((((h.setCell (p:=⟨T,0,U⟩) e _).setCell (p:=⟨T,1,U⟩) e _).setCell (p:=⟨T,2,U⟩) e _).setCell (p:=⟨T,3,U⟩) e _).setCell (p:=⟨K,0,U⟩) j _
theorem Hi{K:Nat}(h:eN w T K a b c d k): eN (oX w T K) T K 0 (J U 0 0) W9 0 W9:=by
 have l:=(((h.s0 0).s1 (J U 0 0)).s2 W9).s3 0;unfold oX;have m:=h.ne;exact⟨(dC (λe=>m e.symm)).trans l.c0,(dC (λe=>m e.symm)).trans l.c1,(dC (λe=>m e.symm)).trans l.c2,(dC (λe=>m e.symm)).trans l.c3,UN _ _ _ l.ck,λj=>(UK _ _ _ _).trans (l.fz j),(UK _ _ _ _).trans l.fk,m⟩
def TA(w:WR):Deferred:={ target := .fn (.func 114) #[WV (S ⟨K (E w)+1,0,U⟩),WV (S ⟨K (E w)+1+1,0,U⟩)],args := #[] }
def nQ:WS := WX #[WY #[Z Y 0,J U 0 0,WW W9,Z Y 0],WW W9]
variable {tmps:Array WS}
theorem rq(e:tmps[6]?=S (WV (S ⟨K (E w)+1,0,U⟩)))(j:tmps[7]?=S (WV (S ⟨K (E w)+1+1,0,U⟩)))(h:eN W (K (E w)+1) (K (E w)+1+1) a b c d k)(hb:b.oneCell'=W8):(results f73 tmps).run prog W=.ok (WX #[WY #[Z Y a,b,WW c,Z Y d],WW k]) W:=by
 have l:=h.c0;have m:=h.c1;have r:=h.c2;have u:=h.c3;have y:=h.ck;cases b <;> simp_all [results,results73,go_sem,Value.oneCell']
theorem fg{E:Sp.Ev}{z f:Addr}{O:Ending->WR->Prop}{y:List PanicEntry}(B:tmps[6]?=S (WV (S ⟨w.heap.size+1,0,U⟩)))(C:tmps[7]?=S (WV (S ⟨w.heap.size+1+1,0,U⟩)))(m:mG w W E a b c d)(he:jY w z f)(j:GY z f (.panicked y))(F:∀A,WQ w A->O (WZ nQ) A): Leaves prog f73 tmps O [TA w] (.panicking y) W:=by
 have r:=he.below m.lJ;have l:∃v,(results f73 tmps).run prog (oX W (w.heap.size+1) (w.heap.size+1+1))=.ok v (oX W (w.heap.size+1) (w.heap.size+1+1))/\O (WZ v) (oX W (w.heap.size+1) (w.heap.size+1+1)):=⟨nQ,rq B C (Hi m.tu) rfl,F _ (zd m.lJ (by omega) (by omega))⟩
 rcases j with j|j
 .injection j with j;subst j;refine leaves_cons (f:=114) (args := #[WV (S ⟨w.heap.size+1,0,U⟩),WV (S ⟨w.heap.size+1+1,0,U⟩)]) (by simp) (by simp[go_sem]) ?_;refine(AK _ _ z f _ _ _ _ _ _ m.tu r).mono ?_;rintro e G u ⟨rfl,rfl,rfl⟩;exact l
 .injection j with j;subst j;refine leaves_cons (f:=114) (args := #[WV (S ⟨w.heap.size+1,0,U⟩),WV (S ⟨w.heap.size+1+1,0,U⟩)]) (by simp) (by simp[go_sem]) ?_;refine(Be _ _ z f _ _ _ _ _ _ m.tu r).mono ?_;rintro e G u ⟨rfl,rfl,rfl⟩;exact l
theorem IB{O:Ending->WR->Prop}(j:tmps[6]?=S (WV (S ⟨K (E w)+1,0,U⟩)))(l:tmps[7]?=S (WV (S ⟨K (E w)+1+1,0,U⟩)))(m:eN W (K (E w)+1) (K (E w)+1+1) a b c d W8)(hb:b.oneCell'=W8)(r:O (WZ (WX #[WY #[Z Y a,b,WW c,Z Y d],WW W8])) W): Leaves prog f73 tmps O [TA w] .returning W:=by
 refine leaves_cons (f:=114) (args := #[WV (S ⟨K (E w)+1,0,U⟩),WV (S ⟨K (E w)+1+1,0,U⟩)]) (by simp) (by simp[go_sem]) ?_;refine(Bg _ _ _).mono ?_;rintro e y u ⟨rfl,rfl,rfl⟩;exact⟨_,rq j l m hb,r⟩
theorem jn{B:Nat}{P:Sp.Pg}{E:Sp.Ev}{z f:Addr}(m:jJ w B P)(he:jY w z f)(r:Sp.nA E)(hb:WQ w W)(hi:i<5): ∃g e,W.cell? ⟨B,i*4,U⟩=S (J (S ⟨g,0,U⟩) (P.code i).length e)/\∀j,WQ W j->WT prog 115 #[J (S ⟨g,0,U⟩) (P.code i).length e,m5 E] j (E6 (Sp.ev (P.code i) E) z f j):=by
 obtain⟨g,e,u,y⟩:=m.code i hi;refine⟨g,e,(hb.cell (p:=⟨B,i*4,U⟩) m.lt).trans u,λj A=>?_⟩;have l:=hb.trans (A.mono hb.size);exact vw _ E r g e z f j (y.below l) (he.below l)
def OD(Q:Exit->Act->WR->Prop):Exit->Act->WR->Prop
 |.panic _,_,_=>False
 |.normal,a,w=>Q .normal a w
 |.ret,a,w=>Q .ret a w
 |.exit n,a,w=>Q (.exit n) a w
 |.goto n,a,w=>Q (.goto n) a w
 |.outgrown,a,w=>Q .outgrown a w
theorem CW{Q:Exit->Act->WR->Prop}:∀e a w,OD Q e a w->Q e a w:=λe a w h=>by
 cases e <;> first|exact h|exact h.elim
theorem mJ{P:Program}{c:Code}{Q:Exit->Act->WR->Prop}{a:Act}(R:WR->Prop)(h:∃A,c.wp P (OD λx l j=>x=.normal/\l=A/\R j) a w/\∀j,R j->Q .normal A j): c.wp P Q a w:=by
 obtain⟨A,m,r⟩:=h;refine Code.wp_mono (λe a w h=>?_) m;obtain⟨rfl,rfl,u⟩:=CW _ _ _ h;exact r _ u
theorem uY{O:Ending->WR->Prop}{d:Nat}(r:d≠6)(y:d≠7): ∀(j:List Deferred) (u:FrameMode) (w:WR),Leaves prog f73 (tmps.setIfInBounds d v) O j u w->Leaves prog f73 tmps O j u w:=by
 have z:results f73 (tmps.setIfInBounds d v)=results f73 tmps:=by
  simp[results,results73,VS r,VS y]
 intro j
 induction j with
 |nil =>
  intro u w h;cases u with
  |run=>exact h
  |returning=>unfold Leaves at h ⊢;rw[z] at h;exact h
  |panicking ch=>exact h
 |cons x j m =>
  intro u w h;obtain⟨A,B,C,f,args,F,G,I⟩:=h;refine⟨A,B,C,f,args,F,G,I.mono ?_⟩;intro e L M l;cases e with
  |returned v=>exact m _ _ l
  |panicked ch=>exact m _ _ l
  |outgrown=>exact l
theorem dJ{K:Act->WR->Prop}{O:Ending->WR->Prop}{d:Nat}(e:d≠6)(j:d≠7): ∀c (a:Act) w,Exit.then K (bodyPostD prog f73 O) (.panic c) (a.put (S d) v) w->Exit.then K (bodyPostD prog f73 O) (.panic c) a w:=λc a w h=>uY e j _ _ _ h
theorem dG{K e:Act->WR->Prop}{O:Ending->WR->Prop}{d:Nat}(j:d≠6)(l:d≠7): ∀c (a:Act) w,Exit.then K (Exit.then e (bodyPostD prog f73 O)) (.panic c) (a.put (S d) v) w->Exit.then K (Exit.then e (bodyPostD prog f73 O)) (.panic c) a w:=λc a w h=>uY j l _ _ _ h
theorem uS{P:Sp.Pg}{E u:Sp.Ev}{Es:List Sp.Ed}{O:Ending->WR->Prop}{t:Sp.Tn}(y:Fz (Sp.gY P E Es) w=O)(ht:Sp.gY P E Es=S t)(l:mG w W u t.value b t.gz t.lG)(z:W.ownsRow (w.heap.size+1+1+1) 2 1 b t.dX.length (t.dX.map λm=>Z Y m.2))(hb:b.oneCell'=W8):∀tmps:Array WS,tmps[6]?=S (WV (S ⟨w.heap.size+1,0,U⟩))->tmps[7]?=S (WV (S ⟨w.heap.size+1+1,0,U⟩))->
   Leaves prog f73 tmps O [TA w] .returning (W.setCell ⟨w.heap.size+1+1,0,U⟩ (WW W8)):=by
 intro tmps A B;have r:=l.tu.ne;have C:eN (W.setCell ⟨w.heap.size+1+1,0,U⟩ (WW W8)) (w.heap.size+1) (w.heap.size+1+1) t.value b t.gz t.lG W8:=⟨(dC (λe=>r e.symm)).trans l.tu.c0,(dC (λe=>r e.symm)).trans l.tu.c1,(dC (λe=>r e.symm)).trans l.tu.c2,(dC (λe=>r e.symm)).trans l.tu.c3,UN _ _ _ l.tu.ck,λj=>(UK _ _ _ _).trans (l.tu.fz j),(UK _ _ _ _).trans l.tu.fk,r⟩
 refine IB A B C hb ?_;rw[<-y,ht];refine⟨l.lJ.setCell (p:=⟨w.heap.size+1+1,0,U⟩) (by show w.heap.size<=w.heap.size+1+1;omega) _,b,rfl,?_⟩;exact fy (Um z (a:=⟨w.heap.size+1+1,0,U⟩) (by show w.heap.size+1+1<w.heap.size+1+1+1;omega) (WW W8)) (by omega)
theorem Ko(B:Nat)(P:Sp.Pg)(E:Sp.Ev)(q:Int)(Es:List Sp.Ed)(pe:Option Addr)(cap:Nat)(z f:Addr)(w:WR)(hp:jJ w B P)(he:jY w z f)(hE:Sp.nA E)(hold:E.yp=E.value)(ax:gh w pe Es)(hn:∀x∈Es,Sp.i64 x.n)(hl:Es.length<=1000):WT prog 73 #[WV (S ⟨B,0,U⟩),m5 (E.iY q),J pe Es.length cap] w (Fz (Sp.gY P E Es) w):=by
 have aJ:∀(fn:Go.Fn) (first cap:Array WS) (w:WR),(Instr.makeFunc fn first cap).run prog w=.ok (.func fn first cap) w:=λ_ _ _ _=>O
 have s:Hid (∀(args:Array WS) (w:WR),(callFunc 115 args).run prog w=.ok (.enter 115 args) w):=cZ func115 (by kernel_rfl) (by kernel_rfl);have o:=cT (And.intro hp (And.intro he (And.intro hE (And.intro ax hn))));have aK:=hp.lt;generalize hO:Fz (Sp.gY P E Es) w=l;replace hO:=cT hO;have p:Hid (∀W,W=((w.alloc (D #[Z Y (E.iY q).value,Z Y (E.iY q).jf,Z Y (E.iY q).iI,Z Y (E.iY q).step,Z Y (E.iY q).id,Z Y (E.iY q).deg,Z Y (E.iY q).all,Z Y (E.iY q).value,Z Y (E.iY q).weight] 165)).alloc (D #[Z Y 0,J U 0 0,WW W9,Z Y 0] 167)).alloc (D #[WW W9] 4)->mG w W E 0 (J U 0 0) W9 0):=by
  show ∀W,_
  rintro W rfl;have au:=Uv w (D #[Z Y (E.iY q).value,Z Y (E.iY q).jf,Z Y (E.iY q).iI,Z Y (E.iY q).step,Z Y (E.iY q).id,Z Y (E.iY q).deg,Z Y (E.iY q).all,Z Y (E.iY q).value,Z Y (E.iY q).weight] 165);generalize ay:w.alloc _=W1 at *;have hS:W1.heap[w.heap.size]?=S (D #[Z Y (E.iY q).value,Z Y (E.iY q).jf,Z Y (E.iY q).iI,Z Y (E.iY q).step,Z Y (E.iY q).id,Z Y (E.iY q).deg,Z Y (E.iY q).all,Z Y (E.iY q).value,Z Y (E.iY q).weight] 165):=by rw[<-ay];exact T9 w _
  have u:WQ w W1:=by rw[<-ay];exact WO.alloc WN _
  have az:=Uv W1 (D #[Z Y 0,J U 0 0,WW W9,Z Y 0] 167);have hT:=T9 W1 (D #[Z Y 0,J U 0 0,WW W9,Z Y 0] 167);have ae:WQ W1 (W1.alloc (D #[Z Y 0,J U 0 0,WW W9,Z Y 0] 167)):=WO.alloc WN _;generalize W1.alloc _=W2 at *;have y:=T9 W2 (D #[WW W9] 4);have av:WQ W2 (W2.alloc (D #[WW W9] 4)):=WO.alloc WN _;generalize W2.alloc _=W3 at *;have aD:W3.heap[w.heap.size]?=_:=(av.block _ (by omega)).trans ((ae.block _ (by omega)).trans hS);have aj:W3.heap[W1.heap.size]?=_:=(av.block _ (by omega)).trans hT;rw[au] at aj;rw[az,au] at y;have aE:ep W3 w.heap.size E:=by
   have h0:=ep.new (E:=E.iY E.value) (t:=165) aD;have e0:E.iY E.value=E:=by
    obtain⟨e1,e2,e3,e4,e5,e6,e7,e8,e9⟩:=E;simp only at hold;subst hold
    rfl
   rw[e0] at h0;exact h0
  refine⟨aE,⟨by simp[Xc,aj],by simp[Xc,aj],by simp[Xc,aj],by simp[Xc,aj],by simp[Xc,y],λj=>by simp[World.frozen?,aj],by simp[World.frozen?,y],by omega⟩,?_⟩;exact(u.trans (ae.mono u.size)).trans (av.mono (by omega))
 clear hp he hE ax hn hold;unfold m5
 go_enter_defers func73,ntmps73
 go_upto_region 3 with fail;generalize hW:World.alloc _ (D #[WW W9] 4)=W;replace p:=cT (cS p W hW.symm);clear hW;obtain⟨g0,aH,k0,ha⟩:=jn (cS o).1 (cS o).2.1 (cS o).2.2.1 (cS p).lJ (i:=0) (by omega);have V:=cT (ha W.drew WO.drew);have y0:=(cS p).si.c0;have y1:=(cS p).si.c1;have y2:=(cS p).si.c2;have y3:=(cS p).si.c3;have y4:=(cS p).si.c4;have y5:=(cS p).si.c5;have y6:=(cS p).si.c6;have y7:=(cS p).si.c7;have y8:=(cS p).si.c8;clear ha;cases A:Sp.ev (P.code 0) E with
 |none =>
  rw[A] at V;have HF:Hid (∀M,WQ w M->l (WZ nQ) M):=by
   show ∀M,_
   intro M aa;rw[<-cS hO];have hz:Sp.gY P E Es=U:=by
    unfold Sp.gY;rw[A]
   rw[hz];exact⟨aa,O⟩
  clear A;refine wp_region_any (by kernel_rfl) ?_;change wpAny _ _ _ _ _ _ _ (World.drew _);refine UQ (i:=0) (v := ?_) rfl (by kernel_rfl) (by kernel_rfl) (by kernel_rfl) (by first|exact dJ (d:=12) (by decide) (by decide)|exact dG (d:=12) (by decide) (by decide)) (Xa ⟨by rfl,?_⟩) ?_
  rotate_left
  .intro w;go_simp;first|done|with_reducible rfl
  refine UQ (i:=1) (v := ?_) rfl (by kernel_rfl) (by kernel_rfl) (by kernel_rfl) (by first|exact dJ (d:=13) (by decide) (by decide)|exact dG (d:=13) (by decide) (by decide)) (Xa ⟨by rfl,?_⟩) ?_
  rotate_left
  .intro w;go_simp;first|done|with_reducible rfl
  refine UQ (i:=2) (v := ?_) rfl (by kernel_rfl) (by kernel_rfl) (by kernel_rfl) (by first|exact dJ (d:=14) (by decide) (by decide)|exact dG (d:=14) (by decide) (by decide)) (Xa ⟨by rfl,?_⟩) ?_
  rotate_left
  .intro w;go_simp;first|done|with_reducible rfl
  refine UQ (i:=3) (v := ?_) rfl (by kernel_rfl) (by kernel_rfl) (by kernel_rfl) (by first|exact dJ (d:=15) (by decide) (by decide)|exact dG (d:=15) (by decide) (by decide)) (Xa ⟨by rfl,?_⟩) ?_
  rotate_left
  .intro w;go_simp;first|done|with_reducible rfl
  refine UQ (i:=4) (v := ?_) rfl (by kernel_rfl) (by kernel_rfl) (by kernel_rfl) (by first|exact dJ (d:=16) (by decide) (by decide)|exact dG (d:=16) (by decide) (by decide)) (Xa ⟨by rfl,?_⟩) ?_
  rotate_left
  .intro w;go_simp;first|done|with_reducible rfl
  refine UR (rs:=[5,6]) (by kernel_rfl) (by simp) ?_;refine UE O (λr y=>?_) ?_
  .go_simp;refine y _ _ ?_;clear y r;refine UR (rs:=[6]) (by kernel_rfl) (by simp) ?_;refine UE O (λr y=>?_) US;go_simp;refine y _ _ ?_;clear y r;refine UR (rs:=[7]) (by kernel_rfl) (by simp) ?_;refine UE O (λr y=>?_) US;refine du (by rfl) _ _ _ (by rfl) 115 (by rfl) _ (by rfl) (cS s) (cS V) ?_;rintro e N ⟨u,C⟩;obtain⟨ch,rfl⟩:=eQ C;exact fg O O ((cS p).below (WO.drew.trans (u.mono WN))) (cS o).2.1 C (cS HF)
  .refine UE O (λr y=>?_) US;go_simp;refine y _ _ ?_;clear y r;refine UR (rs:=[5]) (by kernel_rfl) (by simp) ?_;refine UE O (λr y=>?_) US;go_simp;refine y _ _ ?_;clear y r;refine UR (rs:=[7]) (by kernel_rfl) (by simp) ?_;refine UE O (λr y=>?_) US;refine du (by rfl) _ _ _ (by rfl) 115 (by rfl) _ (by rfl) (cS s) (cS V) ?_;rintro e N ⟨u,C⟩;obtain⟨ch,rfl⟩:=eQ C;exact fg O O ((cS p).below (WO.drew.trans (u.mono WN))) (cS o).2.1 C (cS HF)
 |some v =>
  rw[A] at V;have ab:=cT A;clear A;apply mJ (λM=>∃N,Hid (WQ W N)/\M=N.setCell ⟨w.heap.size+1,0,U⟩ (Z Y v));apply Exists.intro;apply And.intro
  case left =>
   go_region_law (refine du (by rfl) _ _ _ (by rfl) 115 (by rfl) _ (by rfl) (cS s) (cS V) ?_;rintro e N ⟨u,rfl⟩;dsimp only;have I:=(cS p).below (WO.drew.trans (u.mono WN));have k1:=I.tu.c0;have k2:=I.tu.fz 0;replace I:=cT I)
   all_goals exact⟨O,O,N,WO.drew.trans (u.mono WN),O⟩
  case right =>
  rintro M ⟨N,R,rfl⟩;clear y0 y1 y2 y3 y4 y5 y6 y7 y8 k0 V;have Q:=cT (((cS p).below (cS R)).s0 v);clear R;clear p;generalize N.setCell _ _=W1 at Q ⊢;have ak:Hid (Sp.nA (E.j4 v)):=(cS o).2.2.1.j4 (Sp.FI (cS o).2.2.1 lN (cS ab));have x0:=(cS Q).tu.c0;have x1:=(cS Q).si.c0;have x2:=(cS Q).si.fz 0;go_upto_region 5 with fail;replace Q:=cT ((cS Q).j4 v);clear x0 x1 x2;generalize W1.setCell _ _=W2 at Q ⊢;obtain⟨g1,aI,k0,ha⟩:=jn (cS o).1 (cS o).2.1 (cS ak) (cS Q).lJ (i:=1) (by omega);have V:=cT (ha W2.drew WO.drew);have y0:=(cS Q).si.c0;have y1:=(cS Q).si.c1;have y2:=(cS Q).si.c2;have y3:=(cS Q).si.c3;have y4:=(cS Q).si.c4;have y5:=(cS Q).si.c5;have y6:=(cS Q).si.c6;have y7:=(cS Q).si.c7;have y8:=(cS Q).si.c8;clear ha;cases A:Sp.ev (P.code 1) (E.j4 v) with
  |none =>
   rw[A] at V;have HF:Hid (∀M,WQ w M->l (WZ nQ) M):=by
    show ∀M,_
    intro M aa;rw[<-cS hO];have hz:Sp.gY P E Es=U:=by
     unfold Sp.gY;rw[cS ab];simp only;rw[A]
    rw[hz];exact⟨aa,O⟩
   clear A;refine wp_region_any (by kernel_rfl) ?_;change wpAny _ _ _ _ _ _ _ (World.drew _);refine UQ (i:=0) (v := ?_) rfl (by kernel_rfl) (by kernel_rfl) (by kernel_rfl) (by first|exact dJ (d:=24) (by decide) (by decide)|exact dG (d:=24) (by decide) (by decide)) (Xa ⟨by rfl,?_⟩) ?_
   rotate_left
   .intro w;go_simp;first|done|with_reducible rfl
   refine UQ (i:=1) (v := ?_) rfl (by kernel_rfl) (by kernel_rfl) (by kernel_rfl) (by first|exact dJ (d:=25) (by decide) (by decide)|exact dG (d:=25) (by decide) (by decide)) (Xa ⟨by rfl,?_⟩) ?_
   rotate_left
   .intro w;go_simp;first|done|with_reducible rfl
   refine UQ (i:=2) (v := ?_) rfl (by kernel_rfl) (by kernel_rfl) (by kernel_rfl) (by first|exact dJ (d:=26) (by decide) (by decide)|exact dG (d:=26) (by decide) (by decide)) (Xa ⟨by rfl,?_⟩) ?_
   rotate_left
   .intro w;go_simp;first|done|with_reducible rfl
   refine UQ (i:=3) (v := ?_) rfl (by kernel_rfl) (by kernel_rfl) (by kernel_rfl) (by first|exact dJ (d:=27) (by decide) (by decide)|exact dG (d:=27) (by decide) (by decide)) (Xa ⟨by rfl,?_⟩) ?_
   rotate_left
   .intro w;go_simp;first|done|with_reducible rfl
   refine UQ (i:=4) (v := ?_) rfl (by kernel_rfl) (by kernel_rfl) (by kernel_rfl) (by first|exact dJ (d:=28) (by decide) (by decide)|exact dG (d:=28) (by decide) (by decide)) (Xa ⟨by rfl,?_⟩) ?_
   rotate_left
   .intro w;go_simp;first|done|with_reducible rfl
   refine UR (rs:=[5,6]) (by kernel_rfl) (by simp) ?_;refine UE O (λr y=>?_) ?_
   .go_simp;refine y _ _ ?_;clear y r;refine UR (rs:=[6]) (by kernel_rfl) (by simp) ?_;refine UE O (λr y=>?_) US;go_simp;refine y _ _ ?_;clear y r;refine UR (rs:=[7]) (by kernel_rfl) (by simp) ?_;refine UE O (λr y=>?_) US;refine du (by rfl) _ _ _ (by rfl) 115 (by rfl) _ (by rfl) (cS s) (cS V) ?_;rintro e N ⟨u,C⟩;obtain⟨ch,rfl⟩:=eQ C;exact fg O O ((cS Q).below (WO.drew.trans (u.mono WN))) (cS o).2.1 C (cS HF)
   .refine UE O (λr y=>?_) US;go_simp;refine y _ _ ?_;clear y r;refine UR (rs:=[5]) (by kernel_rfl) (by simp) ?_;refine UE O (λr y=>?_) US;go_simp;refine y _ _ ?_;clear y r;refine UR (rs:=[7]) (by kernel_rfl) (by simp) ?_;refine UE O (λr y=>?_) US;refine du (by rfl) _ _ _ (by rfl) 115 (by rfl) _ (by rfl) (cS s) (cS V) ?_;rintro e N ⟨u,C⟩;obtain⟨ch,rfl⟩:=eQ C;exact fg O O ((cS Q).below (WO.drew.trans (u.mono WN))) (cS o).2.1 C (cS HF)
  |some goes =>
   rw[A] at V;have af:=cT A;clear A;apply mJ (λM=>∃V1,Hid (WQ W2 V1)/\V1=M);apply Exists.intro;apply And.intro
   case left =>
    go_region_law (refine du (by rfl) _ _ _ (by rfl) 115 (by rfl) _ (by rfl) (cS s) (cS V) ?_;rintro e N ⟨u,rfl⟩;dsimp only;have I:=(cS Q).below (WO.drew.trans (u.mono WN));replace I:=cT I)
    all_goals exact⟨O,O,N,WO.drew.trans (u.mono WN),O⟩
   case right =>
   rintro M ⟨V1,R,rfl⟩;clear y0 y1 y2 y3 y4 y5 y6 y7 y8 k0 V;have G:=cT ((cS Q).below (cS R));clear R;clear Q;have aF:Hid (∀(g:List (Nat × Int)) (b:WS),b.oneCell'=W8->(if goes=0 then S [] else Sp.msgs (P.code 2) (E.j4 v) Es)=S g->∀(W3:WR),Hid (mG w W3 (E.j4 v) v b W9 0)->Hid (W3.ownsRow (w.heap.size+1+1+1) 2 1 b g.length (g.map λm=>Z Y m.2))->True):=λ_ _ _ _ _ _ _=>trivial
   clear aF;by_cases ad:goes=0
   .have ag:Hid ((if goes=0 then S [] else Sp.msgs (P.code 2) (E.j4 v) Es)=S []):=by show _=_;rw[T0 ad]
    have aG:(goes != 0)=W9:=by simp[ad]
    have HR:Hid (V1.ownsRow (w.heap.size+1+1+1) 2 1 (J U 0 0) ([]:List (Nat × Int)).length (([]:List (Nat × Int)).map λm=>Z Y m.2)):=Uw _ _ _ _;clear ad;go_upto_region 7 with fail;obtain⟨g3,aA,k0,ha⟩:=jn (cS o).1 (cS o).2.1 (cS ak) (cS G).lJ (i:=3) (by omega);have V:=cT (ha V1.drew WO.drew);have y0:=(cS G).si.c0;have y1:=(cS G).si.c1;have y2:=(cS G).si.c2;have y3:=(cS G).si.c3;have y4:=(cS G).si.c4;have y5:=(cS G).si.c5;have y6:=(cS G).si.c6;have y7:=(cS G).si.c7;have y8:=(cS G).si.c8;clear ha;cases A:Sp.ev (P.code 3) (E.j4 v) with
    |none =>
     rw[A] at V;have HF:Hid (∀M,WQ w M->l (WZ nQ) M):=by
      show ∀M,_
      intro M aa;rw[<-cS hO];have hz:Sp.gY P E Es=U:=by
       unfold Sp.gY;rw[cS ab];simp only;rw[cS af];simp only;rw[cS ag];simp only;unfold Sp.nT;rw[A]
      rw[hz];exact⟨aa,O⟩
     clear A;refine wp_region_any (by kernel_rfl) ?_;change wpAny _ _ _ _ _ _ _ (World.drew _);refine UQ (i:=0) (v := ?_) rfl (by kernel_rfl) (by kernel_rfl) (by kernel_rfl) (by first|exact dJ (d:=38) (by decide) (by decide)|exact dG (d:=38) (by decide) (by decide)) (Xa ⟨by rfl,?_⟩) ?_
     rotate_left
     .intro w;go_simp;first|done|with_reducible rfl
     refine UQ (i:=1) (v := ?_) rfl (by kernel_rfl) (by kernel_rfl) (by kernel_rfl) (by first|exact dJ (d:=39) (by decide) (by decide)|exact dG (d:=39) (by decide) (by decide)) (Xa ⟨by rfl,?_⟩) ?_
     rotate_left
     .intro w;go_simp;first|done|with_reducible rfl
     refine UQ (i:=2) (v := ?_) rfl (by kernel_rfl) (by kernel_rfl) (by kernel_rfl) (by first|exact dJ (d:=40) (by decide) (by decide)|exact dG (d:=40) (by decide) (by decide)) (Xa ⟨by rfl,?_⟩) ?_
     rotate_left
     .intro w;go_simp;first|done|with_reducible rfl
     refine UQ (i:=3) (v := ?_) rfl (by kernel_rfl) (by kernel_rfl) (by kernel_rfl) (by first|exact dJ (d:=41) (by decide) (by decide)|exact dG (d:=41) (by decide) (by decide)) (Xa ⟨by rfl,?_⟩) ?_
     rotate_left
     .intro w;go_simp;first|done|with_reducible rfl
     refine UQ (i:=4) (v := ?_) rfl (by kernel_rfl) (by kernel_rfl) (by kernel_rfl) (by first|exact dJ (d:=42) (by decide) (by decide)|exact dG (d:=42) (by decide) (by decide)) (Xa ⟨by rfl,?_⟩) ?_
     rotate_left
     .intro w;go_simp;first|done|with_reducible rfl
     refine UR (rs:=[5,6]) (by kernel_rfl) (by simp) ?_;refine UE O (λr y=>?_) ?_
     .go_simp;refine y _ _ ?_;clear y r;refine UR (rs:=[6]) (by kernel_rfl) (by simp) ?_;refine UE O (λr y=>?_) US;go_simp;refine y _ _ ?_;clear y r;refine UR (rs:=[7]) (by kernel_rfl) (by simp) ?_;refine UE O (λr y=>?_) US;refine du (by rfl) _ _ _ (by rfl) 115 (by rfl) _ (by rfl) (cS s) (cS V) ?_;rintro e N ⟨u,C⟩;obtain⟨ch,rfl⟩:=eQ C;exact fg O O ((cS G).below (WO.drew.trans (u.mono WN))) (cS o).2.1 C (cS HF)
     .refine UE O (λr y=>?_) US;go_simp;refine y _ _ ?_;clear y r;refine UR (rs:=[5]) (by kernel_rfl) (by simp) ?_;refine UE O (λr y=>?_) US;go_simp;refine y _ _ ?_;clear y r;refine UR (rs:=[7]) (by kernel_rfl) (by simp) ?_;refine UE O (λr y=>?_) US;refine du (by rfl) _ _ _ (by rfl) 115 (by rfl) _ (by rfl) (cS s) (cS V) ?_;rintro e N ⟨u,C⟩;obtain⟨ch,rfl⟩:=eQ C;exact fg O O ((cS G).below (WO.drew.trans (u.mono WN))) (cS o).2.1 C (cS HF)
    |some hh =>
     rw[A] at V;have ao:=cT A;clear A;apply mJ (λM=>∃N,Hid (WQ V1 N)/\M=N.setCell ⟨w.heap.size+1,2,U⟩ (WW (hh != 0)));apply Exists.intro;apply And.intro
     case left =>
      go_region_law (refine du (by rfl) _ _ _ (by rfl) 115 (by rfl) _ (by rfl) (cS s) (cS V) ?_;rintro e N ⟨u,rfl⟩;dsimp only;have I:=(cS G).below (WO.drew.trans (u.mono WN));have k1:=I.tu.c2;have k2:=I.tu.fz 2;replace I:=cT I)
      all_goals exact⟨O,O,N,WO.drew.trans (u.mono WN),O⟩
     case right =>
     rintro M ⟨N,R,rfl⟩;clear y0 y1 y2 y3 y4 y5 y6 y7 y8 k0 V;have F:=cT (((cS G).below (cS R)).s2 (hh != 0));have ah:=cT (Um (dd (cS HR) (cS R)) (a:=⟨w.heap.size+1,2,U⟩) (by show w.heap.size+1<w.heap.size+1+1+1;omega) (WW (hh != 0)));clear R;clear G;generalize N.setCell _ _=W4 at F ah ⊢;go_upto_region 8 with fail;obtain⟨g4,aB,k0,ha⟩:=jn (cS o).1 (cS o).2.1 (cS ak) (cS F).lJ (i:=4) (by omega);have V:=cT (ha W4.drew WO.drew);have y0:=(cS F).si.c0;have y1:=(cS F).si.c1;have y2:=(cS F).si.c2;have y3:=(cS F).si.c3;have y4:=(cS F).si.c4;have y5:=(cS F).si.c5;have y6:=(cS F).si.c6;have y7:=(cS F).si.c7;have y8:=(cS F).si.c8;clear ha;cases A:Sp.ev (P.code 4) (E.j4 v) with
     |none =>
      rw[A] at V;have HF:Hid (∀M,WQ w M->l (WZ nQ) M):=by
       show ∀M,_
       intro M aa;rw[<-cS hO];have hz:Sp.gY P E Es=U:=by
        unfold Sp.gY;rw[cS ab];simp only;rw[cS af];simp only;rw[cS ag];simp only;unfold Sp.nT;rw[cS ao];simp only;rw[A]
       rw[hz];exact⟨aa,O⟩
      clear A;refine wp_region_any (by kernel_rfl) ?_;change wpAny _ _ _ _ _ _ _ (World.drew _);refine UQ (i:=0) (v := ?_) rfl (by kernel_rfl) (by kernel_rfl) (by kernel_rfl) (by first|exact dJ (d:=48) (by decide) (by decide)|exact dG (d:=48) (by decide) (by decide)) (Xa ⟨by rfl,?_⟩) ?_
      rotate_left
      .intro w;go_simp;first|done|with_reducible rfl
      refine UQ (i:=1) (v := ?_) rfl (by kernel_rfl) (by kernel_rfl) (by kernel_rfl) (by first|exact dJ (d:=49) (by decide) (by decide)|exact dG (d:=49) (by decide) (by decide)) (Xa ⟨by rfl,?_⟩) ?_
      rotate_left
      .intro w;go_simp;first|done|with_reducible rfl
      refine UQ (i:=2) (v := ?_) rfl (by kernel_rfl) (by kernel_rfl) (by kernel_rfl) (by first|exact dJ (d:=50) (by decide) (by decide)|exact dG (d:=50) (by decide) (by decide)) (Xa ⟨by rfl,?_⟩) ?_
      rotate_left
      .intro w;go_simp;first|done|with_reducible rfl
      refine UQ (i:=3) (v := ?_) rfl (by kernel_rfl) (by kernel_rfl) (by kernel_rfl) (by first|exact dJ (d:=51) (by decide) (by decide)|exact dG (d:=51) (by decide) (by decide)) (Xa ⟨by rfl,?_⟩) ?_
      rotate_left
      .intro w;go_simp;first|done|with_reducible rfl
      refine UQ (i:=4) (v := ?_) rfl (by kernel_rfl) (by kernel_rfl) (by kernel_rfl) (by first|exact dJ (d:=52) (by decide) (by decide)|exact dG (d:=52) (by decide) (by decide)) (Xa ⟨by rfl,?_⟩) ?_
      rotate_left
      .intro w;go_simp;first|done|with_reducible rfl
      refine UR (rs:=[5,6]) (by kernel_rfl) (by simp) ?_;refine UE O (λr y=>?_) ?_
      .go_simp;refine y _ _ ?_;clear y r;refine UR (rs:=[6]) (by kernel_rfl) (by simp) ?_;refine UE O (λr y=>?_) US;go_simp;refine y _ _ ?_;clear y r;refine UR (rs:=[7]) (by kernel_rfl) (by simp) ?_;refine UE O (λr y=>?_) US;refine du (by rfl) _ _ _ (by rfl) 115 (by rfl) _ (by rfl) (cS s) (cS V) ?_;rintro e N ⟨u,C⟩;obtain⟨ch,rfl⟩:=eQ C;exact fg O O ((cS F).below (WO.drew.trans (u.mono WN))) (cS o).2.1 C (cS HF)
      .refine UE O (λr y=>?_) US;go_simp;refine y _ _ ?_;clear y r;refine UR (rs:=[5]) (by kernel_rfl) (by simp) ?_;refine UE O (λr y=>?_) US;go_simp;refine y _ _ ?_;clear y r;refine UR (rs:=[7]) (by kernel_rfl) (by simp) ?_;refine UE O (λr y=>?_) US;refine du (by rfl) _ _ _ (by rfl) 115 (by rfl) _ (by rfl) (cS s) (cS V) ?_;rintro e N ⟨u,C⟩;obtain⟨ch,rfl⟩:=eQ C;exact fg O O ((cS F).below (WO.drew.trans (u.mono WN))) (cS o).2.1 C (cS HF)
     |some gg =>
      rw[A] at V;have aw:=cT A;clear A;apply mJ (λM=>∃N,Hid (WQ W4 N)/\M=N.setCell ⟨w.heap.size+1,3,U⟩ (Z Y gg));apply Exists.intro;apply And.intro
      case left =>
       go_region_law (refine du (by rfl) _ _ _ (by rfl) 115 (by rfl) _ (by rfl) (cS s) (cS V) ?_;rintro e N ⟨u,rfl⟩;dsimp only;have I:=(cS F).below (WO.drew.trans (u.mono WN));have k1:=I.tu.c3;have k2:=I.tu.fz 3;replace I:=cT I)
       all_goals exact⟨O,O,N,WO.drew.trans (u.mono WN),O⟩
      case right =>
      rintro M ⟨N,R,rfl⟩;clear y0 y1 y2 y3 y4 y5 y6 y7 y8 k0 V;have L:=cT (((cS F).below (cS R)).s3 gg);have ai:=cT (Um (dd (cS ah) (cS R)) (a:=⟨w.heap.size+1,3,U⟩) (by show w.heap.size+1<w.heap.size+1+1+1;omega) (Z Y gg));clear R;clear F ah;generalize N.setCell _ _=W5 at L ai ⊢;have aq:=cT (uS (cS hO) (t:=⟨v,hh != 0,gg,[]⟩) (by
       unfold Sp.gY;rw[cS ab];simp only;rw[cS af];simp only;rw[cS ag];simp only;unfold Sp.nT;rw[cS ao];simp only;rw[cS aw]
      ) (((((cS L).s0 v).s1 (J U 0 0)).s2 (hh != 0)).s3 gg) (Um (Um (Um (Um (cS ai) (a:=⟨w.heap.size+1,0,U⟩) (by show w.heap.size+1<w.heap.size+1+1+1;omega) (Z Y v)) (a:=⟨w.heap.size+1,1,U⟩) (by show w.heap.size+1<w.heap.size+1+1+1;omega) (J U 0 0)) (a:=⟨w.heap.size+1,2,U⟩) (by show w.heap.size+1<w.heap.size+1+1+1;omega) (WW (hh != 0))) (a:=⟨w.heap.size+1,3,U⟩) (by show w.heap.size+1<w.heap.size+1+1+1;omega) (Z Y gg)) O)
      have x0:=(cS L).tu.c0;have x1:=(cS L).tu.c1;have x2:=(cS L).tu.c2;have x3:=(cS L).tu.c3;have x4:=(cS L).tu.ck;have x5:=(cS L).tu.fz 0;have x6:=(cS L).tu.fz 1;have x7:=(cS L).tu.fz 2;have x8:=(cS L).tu.fz 3;have x9:=(cS L).tu.fk;clear L ai;go_wp2;exact cS aq _ O O
   .have aG:(goes != 0)=W8:=by simp[ad]
    have HM:Hid (WT prog 116 #[WV (S ⟨B,0,U⟩),m5 (E.j4 v),J pe Es.length cap] V1 (uW (Sp.msgs (P.code 2) (E.j4 v) Es) z f V1)):=by
     have hb:=(cS G).lJ;exact zq B P (E.j4 v) Es pe cap z f V1 ((cS o).1.below hb) ((cS o).2.1.below hb) (cS ak) ((cS o).2.2.2.1.below hb) (cS o).2.2.2.2 hl
    have y0:=(cS G).si.c0;have y1:=(cS G).si.c1;have y2:=(cS G).si.c2;have y3:=(cS G).si.c3;have y4:=(cS G).si.c4;have y5:=(cS G).si.c5;have y6:=(cS G).si.c6;have y7:=(cS G).si.c7;have y8:=(cS G).si.c8;cases an:Sp.msgs (P.code 2) (E.j4 v) Es with
    |none =>
     rw[an] at HM;have HF:Hid (∀M,WQ w M->l (WZ nQ) M):=by
      show ∀M,_
      intro M aa;rw[<-cS hO];have hz:Sp.gY P E Es=U:=by
       unfold Sp.gY;rw[cS ab];simp only;rw[cS af];simp only;rw[TZ ad,an]
      rw[hz];exact⟨aa,O⟩
     clear an ad;go_wp2_with fail;refine(cS HM).mono ?_;rintro e w2 ⟨ae,C⟩;obtain⟨ch,rfl⟩:=eQ C;exact fg O O ((cS G).below ae) (cS o).2.1 C (cS HF)
    |some g =>
     rw[an] at HM;have ag:Hid ((if goes=0 then S [] else Sp.msgs (P.code 2) (E.j4 v) Es)=S g):=by show _=_;rw[TZ ad,an]
     clear an ad;go_wp2_with fail;refine(cS HM).mono ?_;rintro e w2 ⟨ae,b,rfl,ar⟩;have aC:w.heap.size+1+1+1<=V1.heap.size:=(cS G).tu.S7;have X:=cT ((cS G).below ae);have HR:=cT (Um (fy ar aC) (a:=⟨w.heap.size+1,1,U⟩) (by show w.heap.size+1<w.heap.size+1+1+1;omega) b);obtain⟨pb,kb,rfl,_⟩:=dm ar;have k1:=(cS X).tu.c1;have k2:=(cS X).tu.fz 1;clear G HM y0 y1 y2 y3 y4 y5 y6 y7 y8 ar ae aC;go_upto_region 7 with fail;replace X:=cT ((cS X).s1 (J pb g.length kb));clear k1 k2;generalize w2.setCell _ _=W3 at X HR ⊢;obtain⟨g3,aA,k0,ha⟩:=jn (cS o).1 (cS o).2.1 (cS ak) (cS X).lJ (i:=3) (by omega);have V:=cT (ha W3.drew WO.drew);have y0:=(cS X).si.c0;have y1:=(cS X).si.c1;have y2:=(cS X).si.c2;have y3:=(cS X).si.c3;have y4:=(cS X).si.c4;have y5:=(cS X).si.c5;have y6:=(cS X).si.c6;have y7:=(cS X).si.c7;have y8:=(cS X).si.c8;clear ha;cases A:Sp.ev (P.code 3) (E.j4 v) with
     |none =>
      rw[A] at V;have HF:Hid (∀M,WQ w M->l (WZ nQ) M):=by
       show ∀M,_
       intro M aa;rw[<-cS hO];have hz:Sp.gY P E Es=U:=by
        unfold Sp.gY;rw[cS ab];simp only;rw[cS af];simp only;rw[cS ag];simp only;unfold Sp.nT;rw[A]
       rw[hz];exact⟨aa,O⟩
      clear A;refine wp_region_any (by kernel_rfl) ?_;change wpAny _ _ _ _ _ _ _ (World.drew _);refine UQ (i:=0) (v := ?_) rfl (by kernel_rfl) (by kernel_rfl) (by kernel_rfl) (by first|exact dJ (d:=38) (by decide) (by decide)|exact dG (d:=38) (by decide) (by decide)) (Xa ⟨by rfl,?_⟩) ?_
      rotate_left
      .intro w;go_simp;first|done|with_reducible rfl
      refine UQ (i:=1) (v := ?_) rfl (by kernel_rfl) (by kernel_rfl) (by kernel_rfl) (by first|exact dJ (d:=39) (by decide) (by decide)|exact dG (d:=39) (by decide) (by decide)) (Xa ⟨by rfl,?_⟩) ?_
      rotate_left
      .intro w;go_simp;first|done|with_reducible rfl
      refine UQ (i:=2) (v := ?_) rfl (by kernel_rfl) (by kernel_rfl) (by kernel_rfl) (by first|exact dJ (d:=40) (by decide) (by decide)|exact dG (d:=40) (by decide) (by decide)) (Xa ⟨by rfl,?_⟩) ?_
      rotate_left
      .intro w;go_simp;first|done|with_reducible rfl
      refine UQ (i:=3) (v := ?_) rfl (by kernel_rfl) (by kernel_rfl) (by kernel_rfl) (by first|exact dJ (d:=41) (by decide) (by decide)|exact dG (d:=41) (by decide) (by decide)) (Xa ⟨by rfl,?_⟩) ?_
      rotate_left
      .intro w;go_simp;first|done|with_reducible rfl
      refine UQ (i:=4) (v := ?_) rfl (by kernel_rfl) (by kernel_rfl) (by kernel_rfl) (by first|exact dJ (d:=42) (by decide) (by decide)|exact dG (d:=42) (by decide) (by decide)) (Xa ⟨by rfl,?_⟩) ?_
      rotate_left
      .intro w;go_simp;first|done|with_reducible rfl
      refine UR (rs:=[5,6]) (by kernel_rfl) (by simp) ?_;refine UE O (λr y=>?_) ?_
      .go_simp;refine y _ _ ?_;clear y r;refine UR (rs:=[6]) (by kernel_rfl) (by simp) ?_;refine UE O (λr y=>?_) US;go_simp;refine y _ _ ?_;clear y r;refine UR (rs:=[7]) (by kernel_rfl) (by simp) ?_;refine UE O (λr y=>?_) US;refine du (by rfl) _ _ _ (by rfl) 115 (by rfl) _ (by rfl) (cS s) (cS V) ?_;rintro e N ⟨u,C⟩;obtain⟨ch,rfl⟩:=eQ C;exact fg O O ((cS X).below (WO.drew.trans (u.mono WN))) (cS o).2.1 C (cS HF)
      .refine UE O (λr y=>?_) US;go_simp;refine y _ _ ?_;clear y r;refine UR (rs:=[5]) (by kernel_rfl) (by simp) ?_;refine UE O (λr y=>?_) US;go_simp;refine y _ _ ?_;clear y r;refine UR (rs:=[7]) (by kernel_rfl) (by simp) ?_;refine UE O (λr y=>?_) US;refine du (by rfl) _ _ _ (by rfl) 115 (by rfl) _ (by rfl) (cS s) (cS V) ?_;rintro e N ⟨u,C⟩;obtain⟨ch,rfl⟩:=eQ C;exact fg O O ((cS X).below (WO.drew.trans (u.mono WN))) (cS o).2.1 C (cS HF)
     |some hh =>
      rw[A] at V;have ao:=cT A;clear A;apply mJ (λM=>∃N,Hid (WQ W3 N)/\M=N.setCell ⟨w.heap.size+1,2,U⟩ (WW (hh != 0)));apply Exists.intro;apply And.intro
      case left =>
       go_region_law (refine du (by rfl) _ _ _ (by rfl) 115 (by rfl) _ (by rfl) (cS s) (cS V) ?_;rintro e N ⟨u,rfl⟩;dsimp only;have I:=(cS X).below (WO.drew.trans (u.mono WN));have k1:=I.tu.c2;have k2:=I.tu.fz 2;replace I:=cT I)
       all_goals exact⟨O,O,N,WO.drew.trans (u.mono WN),O⟩
      case right =>
      rintro M ⟨N,R,rfl⟩;clear y0 y1 y2 y3 y4 y5 y6 y7 y8 k0 V;have F:=cT (((cS X).below (cS R)).s2 (hh != 0));have ah:=cT (Um (dd (cS HR) (cS R)) (a:=⟨w.heap.size+1,2,U⟩) (by show w.heap.size+1<w.heap.size+1+1+1;omega) (WW (hh != 0)));clear R;clear X;generalize N.setCell _ _=W4 at F ah ⊢;go_upto_region 8 with fail;obtain⟨g4,aB,k0,ha⟩:=jn (cS o).1 (cS o).2.1 (cS ak) (cS F).lJ (i:=4) (by omega);have V:=cT (ha W4.drew WO.drew);have y0:=(cS F).si.c0;have y1:=(cS F).si.c1;have y2:=(cS F).si.c2;have y3:=(cS F).si.c3;have y4:=(cS F).si.c4;have y5:=(cS F).si.c5;have y6:=(cS F).si.c6;have y7:=(cS F).si.c7;have y8:=(cS F).si.c8;clear ha;cases A:Sp.ev (P.code 4) (E.j4 v) with
      |none =>
       rw[A] at V;have HF:Hid (∀M,WQ w M->l (WZ nQ) M):=by
        show ∀M,_
        intro M aa;rw[<-cS hO];have hz:Sp.gY P E Es=U:=by
         unfold Sp.gY;rw[cS ab];simp only;rw[cS af];simp only;rw[cS ag];simp only;unfold Sp.nT;rw[cS ao];simp only;rw[A]
        rw[hz];exact⟨aa,O⟩
       clear A;refine wp_region_any (by kernel_rfl) ?_;change wpAny _ _ _ _ _ _ _ (World.drew _);refine UQ (i:=0) (v := ?_) rfl (by kernel_rfl) (by kernel_rfl) (by kernel_rfl) (by first|exact dJ (d:=48) (by decide) (by decide)|exact dG (d:=48) (by decide) (by decide)) (Xa ⟨by rfl,?_⟩) ?_
       rotate_left
       .intro w;go_simp;first|done|with_reducible rfl
       refine UQ (i:=1) (v := ?_) rfl (by kernel_rfl) (by kernel_rfl) (by kernel_rfl) (by first|exact dJ (d:=49) (by decide) (by decide)|exact dG (d:=49) (by decide) (by decide)) (Xa ⟨by rfl,?_⟩) ?_
       rotate_left
       .intro w;go_simp;first|done|with_reducible rfl
       refine UQ (i:=2) (v := ?_) rfl (by kernel_rfl) (by kernel_rfl) (by kernel_rfl) (by first|exact dJ (d:=50) (by decide) (by decide)|exact dG (d:=50) (by decide) (by decide)) (Xa ⟨by rfl,?_⟩) ?_
       rotate_left
       .intro w;go_simp;first|done|with_reducible rfl
       refine UQ (i:=3) (v := ?_) rfl (by kernel_rfl) (by kernel_rfl) (by kernel_rfl) (by first|exact dJ (d:=51) (by decide) (by decide)|exact dG (d:=51) (by decide) (by decide)) (Xa ⟨by rfl,?_⟩) ?_
       rotate_left
       .intro w;go_simp;first|done|with_reducible rfl
       refine UQ (i:=4) (v := ?_) rfl (by kernel_rfl) (by kernel_rfl) (by kernel_rfl) (by first|exact dJ (d:=52) (by decide) (by decide)|exact dG (d:=52) (by decide) (by decide)) (Xa ⟨by rfl,?_⟩) ?_
       rotate_left
       .intro w;go_simp;first|done|with_reducible rfl
       refine UR (rs:=[5,6]) (by kernel_rfl) (by simp) ?_;refine UE O (λr y=>?_) ?_
       .go_simp;refine y _ _ ?_;clear y r;refine UR (rs:=[6]) (by kernel_rfl) (by simp) ?_;refine UE O (λr y=>?_) US;go_simp;refine y _ _ ?_;clear y r;refine UR (rs:=[7]) (by kernel_rfl) (by simp) ?_;refine UE O (λr y=>?_) US;refine du (by rfl) _ _ _ (by rfl) 115 (by rfl) _ (by rfl) (cS s) (cS V) ?_;rintro e N ⟨u,C⟩;obtain⟨ch,rfl⟩:=eQ C;exact fg O O ((cS F).below (WO.drew.trans (u.mono WN))) (cS o).2.1 C (cS HF)
       .refine UE O (λr y=>?_) US;go_simp;refine y _ _ ?_;clear y r;refine UR (rs:=[5]) (by kernel_rfl) (by simp) ?_;refine UE O (λr y=>?_) US;go_simp;refine y _ _ ?_;clear y r;refine UR (rs:=[7]) (by kernel_rfl) (by simp) ?_;refine UE O (λr y=>?_) US;refine du (by rfl) _ _ _ (by rfl) 115 (by rfl) _ (by rfl) (cS s) (cS V) ?_;rintro e N ⟨u,C⟩;obtain⟨ch,rfl⟩:=eQ C;exact fg O O ((cS F).below (WO.drew.trans (u.mono WN))) (cS o).2.1 C (cS HF)
      |some gg =>
       rw[A] at V;have aw:=cT A;clear A;apply mJ (λM=>∃N,Hid (WQ W4 N)/\M=N.setCell ⟨w.heap.size+1,3,U⟩ (Z Y gg));apply Exists.intro;apply And.intro
       case left =>
        go_region_law (refine du (by rfl) _ _ _ (by rfl) 115 (by rfl) _ (by rfl) (cS s) (cS V) ?_;rintro e N ⟨u,rfl⟩;dsimp only;have I:=(cS F).below (WO.drew.trans (u.mono WN));have k1:=I.tu.c3;have k2:=I.tu.fz 3;replace I:=cT I)
        all_goals exact⟨O,O,N,WO.drew.trans (u.mono WN),O⟩
       case right =>
       rintro M ⟨N,R,rfl⟩;clear y0 y1 y2 y3 y4 y5 y6 y7 y8 k0 V;have L:=cT (((cS F).below (cS R)).s3 gg);have ai:=cT (Um (dd (cS ah) (cS R)) (a:=⟨w.heap.size+1,3,U⟩) (by show w.heap.size+1<w.heap.size+1+1+1;omega) (Z Y gg));clear R;clear F ah;generalize N.setCell _ _=W5 at L ai ⊢;have aq:=cT (uS (cS hO) (t:=⟨v,hh != 0,gg,g⟩) (by
        unfold Sp.gY;rw[cS ab];simp only;rw[cS af];simp only;rw[cS ag];simp only;unfold Sp.nT;rw[cS ao];simp only;rw[cS aw]
       ) (((((cS L).s0 v).s1 (J pb g.length kb)).s2 (hh != 0)).s3 gg) (Um (Um (Um (Um (cS ai) (a:=⟨w.heap.size+1,0,U⟩) (by show w.heap.size+1<w.heap.size+1+1+1;omega) (Z Y v)) (a:=⟨w.heap.size+1,1,U⟩) (by show w.heap.size+1<w.heap.size+1+1+1;omega) (J pb g.length kb)) (a:=⟨w.heap.size+1,2,U⟩) (by show w.heap.size+1<w.heap.size+1+1+1;omega) (WW (hh != 0))) (a:=⟨w.heap.size+1,3,U⟩) (by show w.heap.size+1<w.heap.size+1+1+1;omega) (Z Y gg)) O)
       have x0:=(cS L).tu.c0;have x1:=(cS L).tu.c1;have x2:=(cS L).tu.c2;have x3:=(cS L).tu.c3;have x4:=(cS L).tu.ck;have x5:=(cS L).tu.fz 0;have x6:=(cS L).tu.fz 1;have x7:=(cS L).tu.fz 2;have x8:=(cS L).tu.fz 3;have x9:=(cS L).tu.fk;clear L ai;go_wp2;exact cS aq _ O O
end
end Go.Proofs.YtgkkdpegcieakaaGreatDoor
