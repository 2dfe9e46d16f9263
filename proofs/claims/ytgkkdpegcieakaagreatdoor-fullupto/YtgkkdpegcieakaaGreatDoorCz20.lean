import Derived.Test.YtgkkdpegcieakaaGreatDoorCz14
set_option linter.unusedVariables false
set_option linter.unusedSimpArgs false
set_option maxRecDepth 100000
set_option maxHeartbeats 16000000
namespace Go.Proofs.YtgkkdpegcieakaaGreatDoor
open Go.Proofs.Tryz
open Value renaming int→Z
open IntKind renaming i64→Y
open Go renaming World→TJ,Value→TK,Calls→TL
section
open Go.RowKit
def D0(o:Option Sp.Tn)(w:TJ)(e:Ending)(w':TJ):Prop:=TI w w'/\match o with
  |some t=>∃v,e=.returned (.tuple #[.agg #[Z Y t.value,v,.bool t.gx,Z Y t.lI],.bool true])/\w'.ownsRow w.heap.size 2 1 v t.dy.length (t.dy.map λm=>Z Y m.2)
  |none=>e=.returned (.tuple #[.agg #[Z Y 0,.slice none 0 0,.bool false,Z Y 0],.bool false])
structure mI (w W:TJ) (E:Sp.Ev) (a:Int) (b:TK) (c:Bool) (d:Int):Prop where
 si:dV W w.heap.size E
 tu:eM W (w.heap.size+1) (w.heap.size+1+1) a b c d false
 lL:TI w W
variable {d a:Int}{c k:Bool}{w:TJ}{K T:Nat}{b:TK}
theorem eM.Qt(h:eM w T K a b c d k): T<w.heap.size:=cE w _ h.c0
theorem eM.QG(h:eM w T K a b c d k): K<w.heap.size:=cE w _ h.ck
theorem eM.below{w':TJ}(h:eM w T K a b c d k)(hb:TI w w'): eM w' T K a b c d k:=⟨(hb.cell (p:=⟨T,0,none⟩) h.Qt).trans h.c0,(hb.cell (p:=⟨T,1,none⟩) h.Qt).trans h.c1,(hb.cell (p:=⟨T,2,none⟩) h.Qt).trans h.c2,(hb.cell (p:=⟨T,3,none⟩) h.Qt).trans h.c3,(hb.cell (p:=⟨K,0,none⟩) h.QG).trans h.ck,λj=>(hb.frozen (p:=⟨T,j,none⟩) h.Qt).trans (h.fz j),(hb.frozen (p:=⟨K,0,none⟩) h.QG).trans h.fk,h.ne⟩
variable {E:Sp.Ev}{W:TJ}
theorem mI.below{e:TJ}(h:mI w W E a b c d)(hb:TI W e): mI w e E a b c d:=⟨h.si.below hb,h.tu.below hb,h.lL.trans (hb.mono h.lL.size)⟩
variable {v:TK}{i:Nat}
theorem dq{a b j:Nat}(h:a≠b): (W.setCell ⟨a,i,none⟩ v).cell? ⟨b,j,none⟩=W.cell? ⟨b,j,none⟩:=jx W ⟨a,i,none⟩ ⟨b,j,none⟩ v (by intro e;injection e with e _;exact h e)
theorem dV.other{S a:Nat}(h:dV W S E)(e:a≠S): dV (W.setCell ⟨a,i,none⟩ v) S E:=h.far (λj=>dq e) (λj=>kX _ _ _ _)
theorem eM.other{q:Nat}(h:eM W T K a b c d k)(h1:q≠T)(h2:q≠K): eM (W.setCell ⟨q,i,none⟩ v) T K a b c d k:=⟨(dq h1).trans h.c0,(dq h1).trans h.c1,(dq h1).trans h.c2,(dq h1).trans h.c3,(dq h2).trans h.ck,λj=>(kX _ _ _ _).trans (h.fz j),(kX _ _ _ _).trans h.fk,h.ne⟩
theorem eM.s0(h:eM W T K a b c d k)(x:Int): eM (W.setCell ⟨T,0,none⟩ (Z Y x)) T K x b c d k:=⟨mm _ _ _ h.c0,(cR (by omega)).trans h.c1,(cR (by omega)).trans h.c2,(cR (by omega)).trans h.c3,(dq h.ne).trans h.ck,λj=>(kX _ _ _ _).trans (h.fz j),(kX _ _ _ _).trans h.fk,h.ne⟩
theorem eM.s1(h:eM W T K a b c d k)(x:TK): eM (W.setCell ⟨T,1,none⟩ x) T K a x c d k:=⟨(cR (by omega)).trans h.c0,mm _ _ _ h.c1,(cR (by omega)).trans h.c2,(cR (by omega)).trans h.c3,(dq h.ne).trans h.ck,λj=>(kX _ _ _ _).trans (h.fz j),(kX _ _ _ _).trans h.fk,h.ne⟩
theorem eM.s2(h:eM W T K a b c d k)(x:Bool): eM (W.setCell ⟨T,2,none⟩ (.bool x)) T K a b x d k:=⟨(cR (by omega)).trans h.c0,(cR (by omega)).trans h.c1,mm _ _ _ h.c2,(cR (by omega)).trans h.c3,(dq h.ne).trans h.ck,λj=>(kX _ _ _ _).trans (h.fz j),(kX _ _ _ _).trans h.fk,h.ne⟩
theorem eM.s3(h:eM W T K a b c d k)(x:Int): eM (W.setCell ⟨T,3,none⟩ (Z Y x)) T K a b c x k:=⟨(cR (by omega)).trans h.c0,(cR (by omega)).trans h.c1,(cR (by omega)).trans h.c2,mm _ _ _ h.c3,(dq h.ne).trans h.ck,λj=>(kX _ _ _ _).trans (h.fz j),(kX _ _ _ _).trans h.fk,h.ne⟩
theorem dV.jY{S:Nat}(h:dV w S E)(v:Int): dV (w.setCell ⟨S,0,none⟩ (Z Y v)) S (E.jY v):=by
 have e:∀j,j≠0->(w.setCell ⟨S,0,none⟩ (Z Y v)).cell? ⟨S,j,none⟩=w.cell? ⟨S,j,none⟩:=λj l=>cR (by omega)
 exact⟨mm _ _ _ h.c0,(e _ (by omega)).trans h.c1,(e _ (by omega)).trans h.c2,(e _ (by omega)).trans h.c3,(e _ (by omega)).trans h.c4,(e _ (by omega)).trans h.c5,(e _ (by omega)).trans h.c6,(e _ (by omega)).trans h.c7,(e _ (by omega)).trans h.c8,λj=>(kX _ _ _ _).trans (h.fz j)⟩
theorem mI.jY(h:mI w W E a b c d)(v:Int): mI w (W.setCell ⟨w.heap.size,0,none⟩ (Z Y v)) (E.jY v) a b c d:=⟨h.si.jY v,h.tu.other (by omega) (by omega),h.lL.setCell (p:=⟨w.heap.size,0,none⟩) TG _⟩
theorem mI.s0(h:mI w W E a b c d)(x:Int): mI w (W.setCell ⟨w.heap.size+1,0,none⟩ (Z Y x)) E x b c d:=⟨h.si.other (by omega),h.tu.s0 x,h.lL.setCell (p:=⟨w.heap.size+1,0,none⟩) (px _) _⟩
theorem mI.s1(h:mI w W E a b c d)(x:TK): mI w (W.setCell ⟨w.heap.size+1,1,none⟩ x) E a x c d:=⟨h.si.other (by omega),h.tu.s1 x,h.lL.setCell (p:=⟨w.heap.size+1,1,none⟩) (px _) _⟩
theorem mI.s2(h:mI w W E a b c d)(x:Bool): mI w (W.setCell ⟨w.heap.size+1,2,none⟩ (.bool x)) E a b x d:=⟨h.si.other (by omega),h.tu.s2 x,h.lL.setCell (p:=⟨w.heap.size+1,2,none⟩) (px _) _⟩
theorem mI.s3(h:mI w W E a b c d)(x:Int): mI w (W.setCell ⟨w.heap.size+1,3,none⟩ (Z Y x)) E a b c x:=⟨h.si.other (by omega),h.tu.s3 x,h.lL.setCell (p:=⟨w.heap.size+1,3,none⟩) (px _) _⟩
theorem yy(h:TI w W)(e:w.heap.size<=T)(j:w.heap.size<=K): TI w (oU W T K):=((((h.setCell (p:=⟨T,0,none⟩) e _).setCell (p:=⟨T,1,none⟩) e _).setCell (p:=⟨T,2,none⟩) e _).setCell (p:=⟨T,3,none⟩) e _).setCell (p:=⟨K,0,none⟩) j _
theorem Gh(h:eM w T K a b c d k): eM (oU w T K) T K 0 (.slice none 0 0) false 0 false:=by
 have l:=(((h.s0 0).s1 (.slice none 0 0)).s2 false).s3 0;unfold oU;have m:=h.ne;exact⟨(dq (λe=>m e.symm)).trans l.c0,(dq (λe=>m e.symm)).trans l.c1,(dq (λe=>m e.symm)).trans l.c2,(dq (λe=>m e.symm)).trans l.c3,mm _ _ _ l.ck,λj=>(kX _ _ _ _).trans (l.fz j),(kX _ _ _ _).trans l.fk,m⟩
def QM(w:TJ):Deferred:={ target := .fn (.func 114) #[.pointer (some ⟨w.heap.size+1,0,none⟩),.pointer (some ⟨w.heap.size+1+1,0,none⟩)],args := #[] }
def nV:TK := .tuple #[.agg #[Z Y 0,.slice none 0 0,.bool false,Z Y 0],.bool false]
variable {tmps:Array TK}
theorem qP(e:tmps[6]?=some (.pointer (some ⟨w.heap.size+1,0,none⟩)))(j:tmps[7]?=some (.pointer (some ⟨w.heap.size+1+1,0,none⟩)))(h:eM W (w.heap.size+1) (w.heap.size+1+1) a b c d k)(hb:b.oneCell'=true):(results f73 tmps).run prog W=.ok (.tuple #[.agg #[Z Y a,b,.bool c,Z Y d],.bool k]) W:=by
 have l:=h.c0;have m:=h.c1;have r:=h.c2;have u:=h.c3;have y:=h.ck;cases b <;> simp_all [results,results73,go_sem,Value.oneCell']
variable {O:Ending->TJ->Prop}
theorem ff{z f:Addr}{y:List PanicEntry}(B:tmps[6]?=some (.pointer (some ⟨w.heap.size+1,0,none⟩)))(C:tmps[7]?=some (.pointer (some ⟨w.heap.size+1+1,0,none⟩)))(m:mI w W E a b c d)(he:kj w z f)(j:FN z f (.panicked y))(D:∀A,TI w A->O (.returned nV) A): Leaves prog f73 tmps O [QM w] (.panicking y) W:=by
 have r:=he.below m.lL;have l:∃v,(results f73 tmps).run prog (oU W (w.heap.size+1) (w.heap.size+1+1))=.ok v (oU W (w.heap.size+1) (w.heap.size+1+1))/\O (.returned v) (oU W (w.heap.size+1) (w.heap.size+1+1)):=⟨nV,qP B C (Gh m.tu) rfl,D _ (yy m.lL (by omega) (by omega))⟩
 rcases j with j|j
 .injection j with j;subst j;refine leaves_cons (f:=114) (args := #[.pointer (some ⟨w.heap.size+1,0,none⟩),.pointer (some ⟨w.heap.size+1+1,0,none⟩)]) (by simp) (by simp[go_sem]) ?_;refine(BD _ _ z f _ _ _ _ _ _ m.tu r).mono ?_;rintro e F u ⟨rfl,rfl,rfl⟩;exact l
 .injection j with j;subst j;refine leaves_cons (f:=114) (args := #[.pointer (some ⟨w.heap.size+1,0,none⟩),.pointer (some ⟨w.heap.size+1+1,0,none⟩)]) (by simp) (by simp[go_sem]) ?_;refine(zF _ _ z f _ _ _ _ _ _ m.tu r).mono ?_;rintro e F u ⟨rfl,rfl,rfl⟩;exact l
theorem EW(j:tmps[6]?=some (.pointer (some ⟨w.heap.size+1,0,none⟩)))(l:tmps[7]?=some (.pointer (some ⟨w.heap.size+1+1,0,none⟩)))(m:eM W (w.heap.size+1) (w.heap.size+1+1) a b c d true)(hb:b.oneCell'=true)(r:O (.returned (.tuple #[.agg #[Z Y a,b,.bool c,Z Y d],.bool true])) W): Leaves prog f73 tmps O [QM w] .returning W:=by
 refine leaves_cons (f:=114) (args := #[.pointer (some ⟨w.heap.size+1,0,none⟩),.pointer (some ⟨w.heap.size+1+1,0,none⟩)]) (by simp) (by simp[go_sem]) ?_;refine(A2 _ _ _).mono ?_;rintro e y u ⟨rfl,rfl,rfl⟩;exact⟨_,qP j l m hb,r⟩
theorem jz{B:Nat}{P:Sp.Pg}{z f:Addr}(m:jJ w B P)(he:kj w z f)(r:Sp.nk E)(hb:TI w W)(hi:i<5): ∃g e,W.cell? ⟨B,i*4,none⟩=some (.slice (some ⟨g,0,none⟩) (P.code i).length e)/\∀j,TI W j->TL prog 115 #[.slice (some ⟨g,0,none⟩) (P.code i).length e,mW E] j (Et (Sp.ev (P.code i) E) z f j):=by
 obtain⟨g,e,u,y⟩:=m.code i hi;refine⟨g,e,(hb.cell (p:=⟨B,i*4,none⟩) m.lt).trans u,λj A=>?_⟩;have l:=hb.trans (A.mono hb.size);exact uB _ E r g e z f j (y.below l) (he.below l)
def Mq(Q:Exit->Act->TJ->Prop):Exit->Act->TJ->Prop
 |.panic _,_,_=>False
 |.normal,a,w=>Q .normal a w
 |.ret,a,w=>Q .ret a w
 |.exit n,a,w=>Q (.exit n) a w
 |.goto n,a,w=>Q (.goto n) a w
 |.outgrown,a,w=>Q .outgrown a w
theorem Cv{Q:Exit->Act->TJ->Prop}:∀e a w,Mq Q e a w->Q e a w:=λe a w h=>by
 cases e <;> first|exact h|exact h.elim
theorem mP{P:Program}{c:Code}{Q:Exit->Act->TJ->Prop}{a:Act}(R:TJ->Prop)(h:∃A,c.wp P (Mq λx l j=>x=.normal/\l=A/\R j) a w/\∀j,R j->Q .normal A j): c.wp P Q a w:=by
 obtain⟨A,m,r⟩:=h;refine Code.wp_mono (λe a w h=>?_) m;obtain⟨rfl,rfl,u⟩:=Cv _ _ _ h;exact r _ u
theorem uI{d:Nat}(r:d≠6)(y:d≠7): ∀(j:List Deferred) (u:FrameMode) (w:TJ),Leaves prog f73 (tmps.setIfInBounds d v) O j u w->Leaves prog f73 tmps O j u w:=by
 have z:results f73 (tmps.setIfInBounds d v)=results f73 tmps:=by
  simp[results,results73,I9 r,I9 y]
 intro j
 induction j with
 |nil =>
  intro u w h;cases u with
  |run=>exact h
  |returning=>unfold Leaves at h ⊢;rw[z] at h;exact h
  |panicking A=>exact h
 |cons x j m =>
  intro u w h;obtain⟨B,C,D,f,args,F,G,H⟩:=h;refine⟨B,C,D,f,args,F,G,H.mono ?_⟩;intro e I J l;cases e with
  |returned v=>exact m _ _ l
  |panicked A=>exact m _ _ l
  |outgrown=>exact l
theorem dF{K:Act->TJ->Prop}{d:Nat}(e:d≠6)(j:d≠7): ∀c (a:Act) w,Exit.then K (bodyPostD prog f73 O) (.panic c) (a.put (some d) v) w->Exit.then K (bodyPostD prog f73 O) (.panic c) a w:=λc a w h=>uI e j _ _ _ h
theorem dx{K e:Act->TJ->Prop}{d:Nat}(j:d≠6)(l:d≠7): ∀c (a:Act) w,Exit.then K (Exit.then e (bodyPostD prog f73 O)) (.panic c) (a.put (some d) v) w->Exit.then K (Exit.then e (bodyPostD prog f73 O)) (.panic c) a w:=λc a w h=>uI j l _ _ _ h
theorem vP{P:Sp.Pg}{u:Sp.Ev}{Es:List Sp.Ed}{t:Sp.Tn}(y:D0 (Sp.ia P E Es) w=O)(ht:Sp.ia P E Es=some t)(l:mI w W u t.value b t.gx t.lI)(z:W.ownsRow (w.heap.size+1+1+1) 2 1 b t.dy.length (t.dy.map λm=>Z Y m.2))(hb:b.oneCell'=true):∀tmps:Array TK,tmps[6]?=some (.pointer (some ⟨w.heap.size+1,0,none⟩))->tmps[7]?=some (.pointer (some ⟨w.heap.size+1+1,0,none⟩))->
   Leaves prog f73 tmps O [QM w] .returning (W.setCell ⟨w.heap.size+1+1,0,none⟩ (.bool true)):=by
 intro tmps A B;have r:=l.tu.ne;have C:eM (W.setCell ⟨w.heap.size+1+1,0,none⟩ (.bool true)) (w.heap.size+1) (w.heap.size+1+1) t.value b t.gx t.lI true:=⟨(dq (λe=>r e.symm)).trans l.tu.c0,(dq (λe=>r e.symm)).trans l.tu.c1,(dq (λe=>r e.symm)).trans l.tu.c2,(dq (λe=>r e.symm)).trans l.tu.c3,mm _ _ _ l.tu.ck,λj=>(kX _ _ _ _).trans (l.tu.fz j),(kX _ _ _ _).trans l.tu.fk,r⟩
 refine EW A B C hb ?_;rw[<-y,ht];refine⟨l.lL.setCell (p:=⟨w.heap.size+1+1,0,none⟩) (by show w.heap.size<=w.heap.size+1+1;omega) _,b,rfl,?_⟩;exact fA (cI z (a:=⟨w.heap.size+1+1,0,none⟩) (by show w.heap.size+1+1<w.heap.size+1+1+1;omega) (.bool true)) (by omega)
theorem Ic(B:Nat)(P:Sp.Pg)(E:Sp.Ev)(q:Int)(Es:List Sp.Ed)(pe:Option Addr)(cap:Nat)(z f:Addr)(w:TJ)(hp:jJ w B P)(he:kj w z f)(hE:Sp.nk E)(hold:E.vq=E.value)(aq:fY w pe Es)(hn:∀x∈Es,Sp.i64 x.n)(hl:Es.length<=1000):TL prog 73 #[.pointer (some ⟨B,0,none⟩),mW (E.iM q),.slice pe Es.length cap] w (D0 (Sp.ia P E Es) w):=by
 have aE:∀(fn:Go.Fn) (first cap:Array TK) (w:TJ),(Instr.makeFunc fn first cap).run prog w=.ok (.func fn first cap) w:=λ_ _ _ _=>rfl
 have N:Hid (∀(args:Array TK) (w:TJ),(callFunc 115 args).run prog w=.ok (.enter 115 args) w):=cV func115 (by kernel_rfl) (by kernel_rfl);have R:=cP (And.intro hp (And.intro he (And.intro hE (And.intro aq hn))));have aF:=hp.lt;generalize hO:D0 (Sp.ia P E Es) w=O;replace hO:=cP hO;have Q:Hid (∀W,W=((w.alloc (.cells #[Z Y (E.iM q).value,Z Y (E.iM q).je,Z Y (E.iM q).iK,Z Y (E.iM q).step,Z Y (E.iM q).id,Z Y (E.iM q).deg,Z Y (E.iM q).all,Z Y (E.iM q).value,Z Y (E.iM q).weight] 165)).alloc (.cells #[Z Y 0,.slice none 0 0,.bool false,Z Y 0] 167)).alloc (.cells #[.bool false] 4)->mI w W E 0 (.slice none 0 0) false 0):=by
  show ∀W,_
  rintro W rfl;have ak:=ee w (.cells #[Z Y (E.iM q).value,Z Y (E.iM q).je,Z Y (E.iM q).iK,Z Y (E.iM q).step,Z Y (E.iM q).id,Z Y (E.iM q).deg,Z Y (E.iM q).all,Z Y (E.iM q).value,Z Y (E.iM q).weight] 165);generalize ar:w.alloc _=W1 at *;have hS:W1.heap[w.heap.size]?=some (.cells #[Z Y (E.iM q).value,Z Y (E.iM q).je,Z Y (E.iM q).iK,Z Y (E.iM q).step,Z Y (E.iM q).id,Z Y (E.iM q).deg,Z Y (E.iM q).all,Z Y (E.iM q).value,Z Y (E.iM q).weight] 165):=by rw[<-ar];exact ct w _
  have l:TI w W1:=by rw[<-ar];exact TH.alloc TG _
  have au:=ee W1 (.cells #[Z Y 0,.slice none 0 0,.bool false,Z Y 0] 167);have hT:=ct W1 (.cells #[Z Y 0,.slice none 0 0,.bool false,Z Y 0] 167);have o:TI W1 (W1.alloc (.cells #[Z Y 0,.slice none 0 0,.bool false,Z Y 0] 167)):=TH.alloc TG _;generalize W1.alloc _=W2 at *;have r:=ct W2 (.cells #[.bool false] 4);have an:TI W2 (W2.alloc (.cells #[.bool false] 4)):=TH.alloc TG _;generalize W2.alloc _=W3 at *;have ay:W3.heap[w.heap.size]?=_:=(an.block _ (by omega)).trans ((o.block _ (by omega)).trans hS);have ae:W3.heap[W1.heap.size]?=_:=(an.block _ (by omega)).trans hT;rw[ak] at ae;rw[au,ak] at r;have az:dV W3 w.heap.size E:=by
   have h0:=dV.new (E:=E.iM E.value) (t:=165) ay;have e0:E.iM E.value=E:=by
    obtain⟨e1,e2,e3,e4,e5,e6,e7,e8,e9⟩:=E;simp only at hold;subst hold
    rfl
   rw[e0] at h0;exact h0
  refine⟨az,⟨by simp[World.cell?,ae],by simp[World.cell?,ae],by simp[World.cell?,ae],by simp[World.cell?,ae],by simp[World.cell?,r],λj=>by simp[World.frozen?,ae],by simp[World.frozen?,r],by omega⟩,?_⟩;exact(l.trans (o.mono l.size)).trans (an.mono (by omega))
 clear hp he hE aq hn hold;unfold mW
 go_enter_defers func73,ntmps73
 go_upto_region 3 with fail;generalize hW:World.alloc _ (.cells #[.bool false] 4)=W;replace Q:=cP (cO Q W hW.symm);clear hW;obtain⟨g0,aC,k0,s⟩:=jz (cO R).1 (cO R).2.1 (cO R).2.2.1 (cO Q).lL (i:=0) (by omega);have L:=cP (s W.drew TH.drew);have y0:=(cO Q).si.c0;have y1:=(cO Q).si.c1;have y2:=(cO Q).si.c2;have y3:=(cO Q).si.c3;have y4:=(cO Q).si.c4;have y5:=(cO Q).si.c5;have y6:=(cO Q).si.c6;have y7:=(cO Q).si.c7;have y8:=(cO Q).si.c8;clear s;cases u:Sp.ev (P.code 0) E with
 |none =>
  rw[u] at L;have V:Hid (∀G,TI w G->O (.returned nV) G):=by
   show ∀G,_
   intro G U;rw[<-cO hO];have hz:Sp.ia P E Es=none:=by
    unfold Sp.ia;rw[u]
   rw[hz];exact⟨U,rfl⟩
  clear u;refine wp_region_any (by kernel_rfl) ?_;change wpAny _ _ _ _ _ _ _ (World.drew _);refine m5 (i:=0) (v := ?_) rfl (by kernel_rfl) (by kernel_rfl) (by kernel_rfl) (by first|exact dF (d:=12) (by decide) (by decide)|exact dx (d:=12) (by decide) (by decide)) (Or.inl ⟨by rfl,?_⟩) ?_
  rotate_left
  .intro w;go_simp;first|done|with_reducible rfl
  refine m5 (i:=1) (v := ?_) rfl (by kernel_rfl) (by kernel_rfl) (by kernel_rfl) (by first|exact dF (d:=13) (by decide) (by decide)|exact dx (d:=13) (by decide) (by decide)) (Or.inl ⟨by rfl,?_⟩) ?_
  rotate_left
  .intro w;go_simp;first|done|with_reducible rfl
  refine m5 (i:=2) (v := ?_) rfl (by kernel_rfl) (by kernel_rfl) (by kernel_rfl) (by first|exact dF (d:=14) (by decide) (by decide)|exact dx (d:=14) (by decide) (by decide)) (Or.inl ⟨by rfl,?_⟩) ?_
  rotate_left
  .intro w;go_simp;first|done|with_reducible rfl
  refine m5 (i:=3) (v := ?_) rfl (by kernel_rfl) (by kernel_rfl) (by kernel_rfl) (by first|exact dF (d:=15) (by decide) (by decide)|exact dx (d:=15) (by decide) (by decide)) (Or.inl ⟨by rfl,?_⟩) ?_
  rotate_left
  .intro w;go_simp;first|done|with_reducible rfl
  refine m5 (i:=4) (v := ?_) rfl (by kernel_rfl) (by kernel_rfl) (by kernel_rfl) (by first|exact dF (d:=16) (by decide) (by decide)|exact dx (d:=16) (by decide) (by decide)) (Or.inl ⟨by rfl,?_⟩) ?_
  rotate_left
  .intro w;go_simp;first|done|with_reducible rfl
  refine m6 (rs:=[5,6]) (by kernel_rfl) (by simp) ?_;refine hZ rfl (λK r=>?_) ?_
  .go_simp;refine r _ _ ?_;clear r K;refine m6 (rs:=[6]) (by kernel_rfl) (by simp) ?_;refine hZ rfl (λK r=>?_) n9;go_simp;refine r _ _ ?_;clear r K;refine m6 (rs:=[7]) (by kernel_rfl) (by simp) ?_;refine hZ rfl (λK r=>?_) n9;refine di (by rfl) _ _ _ (by rfl) 115 (by rfl) _ (by rfl) (cO N) (cO L) ?_;rintro e H ⟨l,y⟩;obtain⟨ch,rfl⟩:=eO y;exact ff rfl rfl ((cO Q).below (TH.drew.trans (l.mono TG))) (cO R).2.1 y (cO V)
  .refine hZ rfl (λK r=>?_) n9;go_simp;refine r _ _ ?_;clear r K;refine m6 (rs:=[5]) (by kernel_rfl) (by simp) ?_;refine hZ rfl (λK r=>?_) n9;go_simp;refine r _ _ ?_;clear r K;refine m6 (rs:=[7]) (by kernel_rfl) (by simp) ?_;refine hZ rfl (λK r=>?_) n9;refine di (by rfl) _ _ _ (by rfl) 115 (by rfl) _ (by rfl) (cO N) (cO L) ?_;rintro e H ⟨l,y⟩;obtain⟨ch,rfl⟩:=eO y;exact ff rfl rfl ((cO Q).below (TH.drew.trans (l.mono TG))) (cO R).2.1 y (cO V)
 |some v =>
  rw[u] at L;have X:=cP u;clear u;apply mP (λG=>∃H,Hid (TI W H)/\G=H.setCell ⟨w.heap.size+1,0,none⟩ (Z Y v));apply Exists.intro;apply And.intro
  case left =>
   go_region_law (refine di (by rfl) _ _ _ (by rfl) 115 (by rfl) _ (by rfl) (cO N) (cO L) ?_;rintro e H ⟨l,rfl⟩;dsimp only;have D:=(cO Q).below (TH.drew.trans (l.mono TG));have k1:=D.tu.c0;have k2:=D.tu.fz 0;replace D:=cP D)
   all_goals exact⟨rfl,rfl,H,TH.drew.trans (l.mono TG),rfl⟩
  case right =>
  rintro G ⟨H,J,rfl⟩;clear y0 y1 y2 y3 y4 y5 y6 y7 y8 k0 L;have I:=cP (((cO Q).below (cO J)).s0 v);clear J;clear Q;generalize H.setCell _ _=W1 at I ⊢;have af:Hid (Sp.nk (E.jY v)):=(cO R).2.2.1.jY (Sp.D8 (cO R).2.2.1 lP (cO X));have x0:=(cO I).tu.c0;have x1:=(cO I).si.c0;have x2:=(cO I).si.fz 0;go_upto_region 5 with fail;replace I:=cP ((cO I).jY v);clear x0 x1 x2;generalize W1.setCell _ _=W2 at I ⊢;obtain⟨g1,aD,k0,s⟩:=jz (cO R).1 (cO R).2.1 (cO af) (cO I).lL (i:=1) (by omega);have L:=cP (s W2.drew TH.drew);have y0:=(cO I).si.c0;have y1:=(cO I).si.c1;have y2:=(cO I).si.c2;have y3:=(cO I).si.c3;have y4:=(cO I).si.c4;have y5:=(cO I).si.c5;have y6:=(cO I).si.c6;have y7:=(cO I).si.c7;have y8:=(cO I).si.c8;clear s;cases u:Sp.ev (P.code 1) (E.jY v) with
  |none =>
   rw[u] at L;have V:Hid (∀G,TI w G->O (.returned nV) G):=by
    show ∀G,_
    intro G U;rw[<-cO hO];have hz:Sp.ia P E Es=none:=by
     unfold Sp.ia;rw[cO X];simp only;rw[u]
    rw[hz];exact⟨U,rfl⟩
   clear u;refine wp_region_any (by kernel_rfl) ?_;change wpAny _ _ _ _ _ _ _ (World.drew _);refine m5 (i:=0) (v := ?_) rfl (by kernel_rfl) (by kernel_rfl) (by kernel_rfl) (by first|exact dF (d:=24) (by decide) (by decide)|exact dx (d:=24) (by decide) (by decide)) (Or.inl ⟨by rfl,?_⟩) ?_
   rotate_left
   .intro w;go_simp;first|done|with_reducible rfl
   refine m5 (i:=1) (v := ?_) rfl (by kernel_rfl) (by kernel_rfl) (by kernel_rfl) (by first|exact dF (d:=25) (by decide) (by decide)|exact dx (d:=25) (by decide) (by decide)) (Or.inl ⟨by rfl,?_⟩) ?_
   rotate_left
   .intro w;go_simp;first|done|with_reducible rfl
   refine m5 (i:=2) (v := ?_) rfl (by kernel_rfl) (by kernel_rfl) (by kernel_rfl) (by first|exact dF (d:=26) (by decide) (by decide)|exact dx (d:=26) (by decide) (by decide)) (Or.inl ⟨by rfl,?_⟩) ?_
   rotate_left
   .intro w;go_simp;first|done|with_reducible rfl
   refine m5 (i:=3) (v := ?_) rfl (by kernel_rfl) (by kernel_rfl) (by kernel_rfl) (by first|exact dF (d:=27) (by decide) (by decide)|exact dx (d:=27) (by decide) (by decide)) (Or.inl ⟨by rfl,?_⟩) ?_
   rotate_left
   .intro w;go_simp;first|done|with_reducible rfl
   refine m5 (i:=4) (v := ?_) rfl (by kernel_rfl) (by kernel_rfl) (by kernel_rfl) (by first|exact dF (d:=28) (by decide) (by decide)|exact dx (d:=28) (by decide) (by decide)) (Or.inl ⟨by rfl,?_⟩) ?_
   rotate_left
   .intro w;go_simp;first|done|with_reducible rfl
   refine m6 (rs:=[5,6]) (by kernel_rfl) (by simp) ?_;refine hZ rfl (λK r=>?_) ?_
   .go_simp;refine r _ _ ?_;clear r K;refine m6 (rs:=[6]) (by kernel_rfl) (by simp) ?_;refine hZ rfl (λK r=>?_) n9;go_simp;refine r _ _ ?_;clear r K;refine m6 (rs:=[7]) (by kernel_rfl) (by simp) ?_;refine hZ rfl (λK r=>?_) n9;refine di (by rfl) _ _ _ (by rfl) 115 (by rfl) _ (by rfl) (cO N) (cO L) ?_;rintro e H ⟨l,y⟩;obtain⟨ch,rfl⟩:=eO y;exact ff rfl rfl ((cO I).below (TH.drew.trans (l.mono TG))) (cO R).2.1 y (cO V)
   .refine hZ rfl (λK r=>?_) n9;go_simp;refine r _ _ ?_;clear r K;refine m6 (rs:=[5]) (by kernel_rfl) (by simp) ?_;refine hZ rfl (λK r=>?_) n9;go_simp;refine r _ _ ?_;clear r K;refine m6 (rs:=[7]) (by kernel_rfl) (by simp) ?_;refine hZ rfl (λK r=>?_) n9;refine di (by rfl) _ _ _ (by rfl) 115 (by rfl) _ (by rfl) (cO N) (cO L) ?_;rintro e H ⟨l,y⟩;obtain⟨ch,rfl⟩:=eO y;exact ff rfl rfl ((cO I).below (TH.drew.trans (l.mono TG))) (cO R).2.1 y (cO V)
  |some goes =>
   rw[u] at L;have g:=cP u;clear u;apply mP (λG=>∃V1,Hid (TI W2 V1)/\V1=G);apply Exists.intro;apply And.intro
   case left =>
    go_region_law (refine di (by rfl) _ _ _ (by rfl) 115 (by rfl) _ (by rfl) (cO N) (cO L) ?_;rintro e H ⟨l,rfl⟩;dsimp only;have D:=(cO I).below (TH.drew.trans (l.mono TG));replace D:=cP D)
    all_goals exact⟨rfl,rfl,H,TH.drew.trans (l.mono TG),rfl⟩
   case right =>
   rintro G ⟨V1,J,rfl⟩;clear y0 y1 y2 y3 y4 y5 y6 y7 y8 k0 L;have C:=cP ((cO I).below (cO J));clear J;clear I;have aA:Hid (∀(S:List (Nat × Int)) (b:TK),b.oneCell'=true->(if goes=0 then some [] else Sp.msgs (P.code 2) (E.jY v) Es)=some S->∀(W3:TJ),Hid (mI w W3 (E.jY v) v b false 0)->Hid (W3.ownsRow (w.heap.size+1+1+1) 2 1 b S.length (S.map λm=>Z Y m.2))->True):=λ_ _ _ _ _ _ _=>trivial
   clear aA;by_cases p:goes=0
   .have aa:Hid ((if goes=0 then some [] else Sp.msgs (P.code 2) (E.jY v) Es)=some []):=by show _=_;rw[cg p]
    have aB:(goes != 0)=false:=by simp[p]
    have HR:Hid (V1.ownsRow (w.heap.size+1+1+1) 2 1 (.slice none 0 0) ([]:List (Nat × Int)).length (([]:List (Nat × Int)).map λm=>Z Y m.2)):=fc _ _ _ _;clear p;go_upto_region 7 with fail;obtain⟨g3,av,k0,s⟩:=jz (cO R).1 (cO R).2.1 (cO af) (cO C).lL (i:=3) (by omega);have L:=cP (s V1.drew TH.drew);have y0:=(cO C).si.c0;have y1:=(cO C).si.c1;have y2:=(cO C).si.c2;have y3:=(cO C).si.c3;have y4:=(cO C).si.c4;have y5:=(cO C).si.c5;have y6:=(cO C).si.c6;have y7:=(cO C).si.c7;have y8:=(cO C).si.c8;clear s;cases u:Sp.ev (P.code 3) (E.jY v) with
    |none =>
     rw[u] at L;have V:Hid (∀G,TI w G->O (.returned nV) G):=by
      show ∀G,_
      intro G U;rw[<-cO hO];have hz:Sp.ia P E Es=none:=by
       unfold Sp.ia;rw[cO X];simp only;rw[cO g];simp only;rw[cO aa];simp only;unfold Sp.nL;rw[u]
      rw[hz];exact⟨U,rfl⟩
     clear u;refine wp_region_any (by kernel_rfl) ?_;change wpAny _ _ _ _ _ _ _ (World.drew _);refine m5 (i:=0) (v := ?_) rfl (by kernel_rfl) (by kernel_rfl) (by kernel_rfl) (by first|exact dF (d:=38) (by decide) (by decide)|exact dx (d:=38) (by decide) (by decide)) (Or.inl ⟨by rfl,?_⟩) ?_
     rotate_left
     .intro w;go_simp;first|done|with_reducible rfl
     refine m5 (i:=1) (v := ?_) rfl (by kernel_rfl) (by kernel_rfl) (by kernel_rfl) (by first|exact dF (d:=39) (by decide) (by decide)|exact dx (d:=39) (by decide) (by decide)) (Or.inl ⟨by rfl,?_⟩) ?_
     rotate_left
     .intro w;go_simp;first|done|with_reducible rfl
     refine m5 (i:=2) (v := ?_) rfl (by kernel_rfl) (by kernel_rfl) (by kernel_rfl) (by first|exact dF (d:=40) (by decide) (by decide)|exact dx (d:=40) (by decide) (by decide)) (Or.inl ⟨by rfl,?_⟩) ?_
     rotate_left
     .intro w;go_simp;first|done|with_reducible rfl
     refine m5 (i:=3) (v := ?_) rfl (by kernel_rfl) (by kernel_rfl) (by kernel_rfl) (by first|exact dF (d:=41) (by decide) (by decide)|exact dx (d:=41) (by decide) (by decide)) (Or.inl ⟨by rfl,?_⟩) ?_
     rotate_left
     .intro w;go_simp;first|done|with_reducible rfl
     refine m5 (i:=4) (v := ?_) rfl (by kernel_rfl) (by kernel_rfl) (by kernel_rfl) (by first|exact dF (d:=42) (by decide) (by decide)|exact dx (d:=42) (by decide) (by decide)) (Or.inl ⟨by rfl,?_⟩) ?_
     rotate_left
     .intro w;go_simp;first|done|with_reducible rfl
     refine m6 (rs:=[5,6]) (by kernel_rfl) (by simp) ?_;refine hZ rfl (λK r=>?_) ?_
     .go_simp;refine r _ _ ?_;clear r K;refine m6 (rs:=[6]) (by kernel_rfl) (by simp) ?_;refine hZ rfl (λK r=>?_) n9;go_simp;refine r _ _ ?_;clear r K;refine m6 (rs:=[7]) (by kernel_rfl) (by simp) ?_;refine hZ rfl (λK r=>?_) n9;refine di (by rfl) _ _ _ (by rfl) 115 (by rfl) _ (by rfl) (cO N) (cO L) ?_;rintro e H ⟨l,y⟩;obtain⟨ch,rfl⟩:=eO y;exact ff rfl rfl ((cO C).below (TH.drew.trans (l.mono TG))) (cO R).2.1 y (cO V)
     .refine hZ rfl (λK r=>?_) n9;go_simp;refine r _ _ ?_;clear r K;refine m6 (rs:=[5]) (by kernel_rfl) (by simp) ?_;refine hZ rfl (λK r=>?_) n9;go_simp;refine r _ _ ?_;clear r K;refine m6 (rs:=[7]) (by kernel_rfl) (by simp) ?_;refine hZ rfl (λK r=>?_) n9;refine di (by rfl) _ _ _ (by rfl) 115 (by rfl) _ (by rfl) (cO N) (cO L) ?_;rintro e H ⟨l,y⟩;obtain⟨ch,rfl⟩:=eO y;exact ff rfl rfl ((cO C).below (TH.drew.trans (l.mono TG))) (cO R).2.1 y (cO V)
    |some hh =>
     rw[u] at L;have ah:=cP u;clear u;apply mP (λG=>∃H,Hid (TI V1 H)/\G=H.setCell ⟨w.heap.size+1,2,none⟩ (.bool (hh != 0)));apply Exists.intro;apply And.intro
     case left =>
      go_region_law (refine di (by rfl) _ _ _ (by rfl) 115 (by rfl) _ (by rfl) (cO N) (cO L) ?_;rintro e H ⟨l,rfl⟩;dsimp only;have D:=(cO C).below (TH.drew.trans (l.mono TG));have k1:=D.tu.c2;have k2:=D.tu.fz 2;replace D:=cP D)
      all_goals exact⟨rfl,rfl,H,TH.drew.trans (l.mono TG),rfl⟩
     case right =>
     rintro G ⟨H,J,rfl⟩;clear y0 y1 y2 y3 y4 y5 y6 y7 y8 k0 L;have A:=cP (((cO C).below (cO J)).s2 (hh != 0));have ab:=cP (cI (cW (cO HR) (cO J)) (a:=⟨w.heap.size+1,2,none⟩) (by show w.heap.size+1<w.heap.size+1+1+1;omega) (.bool (hh != 0)));clear J;clear C;generalize H.setCell _ _=W4 at A ab ⊢;go_upto_region 8 with fail;obtain⟨g4,aw,k0,s⟩:=jz (cO R).1 (cO R).2.1 (cO af) (cO A).lL (i:=4) (by omega);have L:=cP (s W4.drew TH.drew);have y0:=(cO A).si.c0;have y1:=(cO A).si.c1;have y2:=(cO A).si.c2;have y3:=(cO A).si.c3;have y4:=(cO A).si.c4;have y5:=(cO A).si.c5;have y6:=(cO A).si.c6;have y7:=(cO A).si.c7;have y8:=(cO A).si.c8;clear s;cases u:Sp.ev (P.code 4) (E.jY v) with
     |none =>
      rw[u] at L;have V:Hid (∀G,TI w G->O (.returned nV) G):=by
       show ∀G,_
       intro G U;rw[<-cO hO];have hz:Sp.ia P E Es=none:=by
        unfold Sp.ia;rw[cO X];simp only;rw[cO g];simp only;rw[cO aa];simp only;unfold Sp.nL;rw[cO ah];simp only;rw[u]
       rw[hz];exact⟨U,rfl⟩
      clear u;refine wp_region_any (by kernel_rfl) ?_;change wpAny _ _ _ _ _ _ _ (World.drew _);refine m5 (i:=0) (v := ?_) rfl (by kernel_rfl) (by kernel_rfl) (by kernel_rfl) (by first|exact dF (d:=48) (by decide) (by decide)|exact dx (d:=48) (by decide) (by decide)) (Or.inl ⟨by rfl,?_⟩) ?_
      rotate_left
      .intro w;go_simp;first|done|with_reducible rfl
      refine m5 (i:=1) (v := ?_) rfl (by kernel_rfl) (by kernel_rfl) (by kernel_rfl) (by first|exact dF (d:=49) (by decide) (by decide)|exact dx (d:=49) (by decide) (by decide)) (Or.inl ⟨by rfl,?_⟩) ?_
      rotate_left
      .intro w;go_simp;first|done|with_reducible rfl
      refine m5 (i:=2) (v := ?_) rfl (by kernel_rfl) (by kernel_rfl) (by kernel_rfl) (by first|exact dF (d:=50) (by decide) (by decide)|exact dx (d:=50) (by decide) (by decide)) (Or.inl ⟨by rfl,?_⟩) ?_
      rotate_left
      .intro w;go_simp;first|done|with_reducible rfl
      refine m5 (i:=3) (v := ?_) rfl (by kernel_rfl) (by kernel_rfl) (by kernel_rfl) (by first|exact dF (d:=51) (by decide) (by decide)|exact dx (d:=51) (by decide) (by decide)) (Or.inl ⟨by rfl,?_⟩) ?_
      rotate_left
      .intro w;go_simp;first|done|with_reducible rfl
      refine m5 (i:=4) (v := ?_) rfl (by kernel_rfl) (by kernel_rfl) (by kernel_rfl) (by first|exact dF (d:=52) (by decide) (by decide)|exact dx (d:=52) (by decide) (by decide)) (Or.inl ⟨by rfl,?_⟩) ?_
      rotate_left
      .intro w;go_simp;first|done|with_reducible rfl
      refine m6 (rs:=[5,6]) (by kernel_rfl) (by simp) ?_;refine hZ rfl (λK r=>?_) ?_
      .go_simp;refine r _ _ ?_;clear r K;refine m6 (rs:=[6]) (by kernel_rfl) (by simp) ?_;refine hZ rfl (λK r=>?_) n9;go_simp;refine r _ _ ?_;clear r K;refine m6 (rs:=[7]) (by kernel_rfl) (by simp) ?_;refine hZ rfl (λK r=>?_) n9;refine di (by rfl) _ _ _ (by rfl) 115 (by rfl) _ (by rfl) (cO N) (cO L) ?_;rintro e H ⟨l,y⟩;obtain⟨ch,rfl⟩:=eO y;exact ff rfl rfl ((cO A).below (TH.drew.trans (l.mono TG))) (cO R).2.1 y (cO V)
      .refine hZ rfl (λK r=>?_) n9;go_simp;refine r _ _ ?_;clear r K;refine m6 (rs:=[5]) (by kernel_rfl) (by simp) ?_;refine hZ rfl (λK r=>?_) n9;go_simp;refine r _ _ ?_;clear r K;refine m6 (rs:=[7]) (by kernel_rfl) (by simp) ?_;refine hZ rfl (λK r=>?_) n9;refine di (by rfl) _ _ _ (by rfl) 115 (by rfl) _ (by rfl) (cO N) (cO L) ?_;rintro e H ⟨l,y⟩;obtain⟨ch,rfl⟩:=eO y;exact ff rfl rfl ((cO A).below (TH.drew.trans (l.mono TG))) (cO R).2.1 y (cO V)
     |some gg =>
      rw[u] at L;have ao:=cP u;clear u;apply mP (λG=>∃H,Hid (TI W4 H)/\G=H.setCell ⟨w.heap.size+1,3,none⟩ (Z Y gg));apply Exists.intro;apply And.intro
      case left =>
       go_region_law (refine di (by rfl) _ _ _ (by rfl) 115 (by rfl) _ (by rfl) (cO N) (cO L) ?_;rintro e H ⟨l,rfl⟩;dsimp only;have D:=(cO A).below (TH.drew.trans (l.mono TG));have k1:=D.tu.c3;have k2:=D.tu.fz 3;replace D:=cP D)
       all_goals exact⟨rfl,rfl,H,TH.drew.trans (l.mono TG),rfl⟩
      case right =>
      rintro G ⟨H,J,rfl⟩;clear y0 y1 y2 y3 y4 y5 y6 y7 y8 k0 L;have F:=cP (((cO A).below (cO J)).s3 gg);have ad:=cP (cI (cW (cO ab) (cO J)) (a:=⟨w.heap.size+1,3,none⟩) (by show w.heap.size+1<w.heap.size+1+1+1;omega) (Z Y gg));clear J;clear A ab;generalize H.setCell _ _=W5 at F ad ⊢;have ai:=cP (vP (cO hO) (t:=⟨v,hh != 0,gg,[]⟩) (by
       unfold Sp.ia;rw[cO X];simp only;rw[cO g];simp only;rw[cO aa];simp only;unfold Sp.nL;rw[cO ah];simp only;rw[cO ao]
      ) (((((cO F).s0 v).s1 (.slice none 0 0)).s2 (hh != 0)).s3 gg) (cI (cI (cI (cI (cO ad) (a:=⟨w.heap.size+1,0,none⟩) (by show w.heap.size+1<w.heap.size+1+1+1;omega) (Z Y v)) (a:=⟨w.heap.size+1,1,none⟩) (by show w.heap.size+1<w.heap.size+1+1+1;omega) (.slice none 0 0)) (a:=⟨w.heap.size+1,2,none⟩) (by show w.heap.size+1<w.heap.size+1+1+1;omega) (.bool (hh != 0))) (a:=⟨w.heap.size+1,3,none⟩) (by show w.heap.size+1<w.heap.size+1+1+1;omega) (Z Y gg)) rfl)
      have x0:=(cO F).tu.c0;have x1:=(cO F).tu.c1;have x2:=(cO F).tu.c2;have x3:=(cO F).tu.c3;have x4:=(cO F).tu.ck;have x5:=(cO F).tu.fz 0;have x6:=(cO F).tu.fz 1;have x7:=(cO F).tu.fz 2;have x8:=(cO F).tu.fz 3;have x9:=(cO F).tu.fk;clear F ad;go_wp2;exact cO ai _ rfl rfl
   .have aB:(goes != 0)=true:=by simp[p]
    have HM:Hid (TL prog 116 #[.pointer (some ⟨B,0,none⟩),mW (E.jY v),.slice pe Es.length cap] V1 (vG (Sp.msgs (P.code 2) (E.jY v) Es) z f V1)):=by
     have hb:=(cO C).lL;exact zq B P (E.jY v) Es pe cap z f V1 ((cO R).1.below hb) ((cO R).2.1.below hb) (cO af) ((cO R).2.2.2.1.below hb) (cO R).2.2.2.2 hl
    have y0:=(cO C).si.c0;have y1:=(cO C).si.c1;have y2:=(cO C).si.c2;have y3:=(cO C).si.c3;have y4:=(cO C).si.c4;have y5:=(cO C).si.c5;have y6:=(cO C).si.c6;have y7:=(cO C).si.c7;have y8:=(cO C).si.c8;cases ag:Sp.msgs (P.code 2) (E.jY v) Es with
    |none =>
     rw[ag] at HM;have V:Hid (∀G,TI w G->O (.returned nV) G):=by
      show ∀G,_
      intro G U;rw[<-cO hO];have hz:Sp.ia P E Es=none:=by
       unfold Sp.ia;rw[cO X];simp only;rw[cO g];simp only;rw[cd p,ag]
      rw[hz];exact⟨U,rfl⟩
     clear ag p;go_wp2_with fail;refine(cO HM).mono ?_;rintro e w2 ⟨o,y⟩;obtain⟨ch,rfl⟩:=eO y;exact ff rfl rfl ((cO C).below o) (cO R).2.1 y (cO V)
    |some S =>
     rw[ag] at HM;have aa:Hid ((if goes=0 then some [] else Sp.msgs (P.code 2) (E.jY v) Es)=some S):=by show _=_;rw[cd p,ag]
     clear ag p;go_wp2_with fail;refine(cO HM).mono ?_;rintro e w2 ⟨o,b,rfl,aj⟩;have ax:w.heap.size+1+1+1<=V1.heap.size:=(cO C).tu.QG;have M:=cP ((cO C).below o);have HR:=cP (cI (fA aj ax) (a:=⟨w.heap.size+1,1,none⟩) (by show w.heap.size+1<w.heap.size+1+1+1;omega) b);obtain⟨pb,kb,rfl,_⟩:=dd aj;have k1:=(cO M).tu.c1;have k2:=(cO M).tu.fz 1;clear C HM y0 y1 y2 y3 y4 y5 y6 y7 y8 aj o ax;go_upto_region 7 with fail;replace M:=cP ((cO M).s1 (.slice pb S.length kb));clear k1 k2;generalize w2.setCell _ _=W3 at M HR ⊢;obtain⟨g3,av,k0,s⟩:=jz (cO R).1 (cO R).2.1 (cO af) (cO M).lL (i:=3) (by omega);have L:=cP (s W3.drew TH.drew);have y0:=(cO M).si.c0;have y1:=(cO M).si.c1;have y2:=(cO M).si.c2;have y3:=(cO M).si.c3;have y4:=(cO M).si.c4;have y5:=(cO M).si.c5;have y6:=(cO M).si.c6;have y7:=(cO M).si.c7;have y8:=(cO M).si.c8;clear s;cases u:Sp.ev (P.code 3) (E.jY v) with
     |none =>
      rw[u] at L;have V:Hid (∀G,TI w G->O (.returned nV) G):=by
       show ∀G,_
       intro G U;rw[<-cO hO];have hz:Sp.ia P E Es=none:=by
        unfold Sp.ia;rw[cO X];simp only;rw[cO g];simp only;rw[cO aa];simp only;unfold Sp.nL;rw[u]
       rw[hz];exact⟨U,rfl⟩
      clear u;refine wp_region_any (by kernel_rfl) ?_;change wpAny _ _ _ _ _ _ _ (World.drew _);refine m5 (i:=0) (v := ?_) rfl (by kernel_rfl) (by kernel_rfl) (by kernel_rfl) (by first|exact dF (d:=38) (by decide) (by decide)|exact dx (d:=38) (by decide) (by decide)) (Or.inl ⟨by rfl,?_⟩) ?_
      rotate_left
      .intro w;go_simp;first|done|with_reducible rfl
      refine m5 (i:=1) (v := ?_) rfl (by kernel_rfl) (by kernel_rfl) (by kernel_rfl) (by first|exact dF (d:=39) (by decide) (by decide)|exact dx (d:=39) (by decide) (by decide)) (Or.inl ⟨by rfl,?_⟩) ?_
      rotate_left
      .intro w;go_simp;first|done|with_reducible rfl
      refine m5 (i:=2) (v := ?_) rfl (by kernel_rfl) (by kernel_rfl) (by kernel_rfl) (by first|exact dF (d:=40) (by decide) (by decide)|exact dx (d:=40) (by decide) (by decide)) (Or.inl ⟨by rfl,?_⟩) ?_
      rotate_left
      .intro w;go_simp;first|done|with_reducible rfl
      refine m5 (i:=3) (v := ?_) rfl (by kernel_rfl) (by kernel_rfl) (by kernel_rfl) (by first|exact dF (d:=41) (by decide) (by decide)|exact dx (d:=41) (by decide) (by decide)) (Or.inl ⟨by rfl,?_⟩) ?_
      rotate_left
      .intro w;go_simp;first|done|with_reducible rfl
      refine m5 (i:=4) (v := ?_) rfl (by kernel_rfl) (by kernel_rfl) (by kernel_rfl) (by first|exact dF (d:=42) (by decide) (by decide)|exact dx (d:=42) (by decide) (by decide)) (Or.inl ⟨by rfl,?_⟩) ?_
      rotate_left
      .intro w;go_simp;first|done|with_reducible rfl
      refine m6 (rs:=[5,6]) (by kernel_rfl) (by simp) ?_;refine hZ rfl (λK r=>?_) ?_
      .go_simp;refine r _ _ ?_;clear r K;refine m6 (rs:=[6]) (by kernel_rfl) (by simp) ?_;refine hZ rfl (λK r=>?_) n9;go_simp;refine r _ _ ?_;clear r K;refine m6 (rs:=[7]) (by kernel_rfl) (by simp) ?_;refine hZ rfl (λK r=>?_) n9;refine di (by rfl) _ _ _ (by rfl) 115 (by rfl) _ (by rfl) (cO N) (cO L) ?_;rintro e H ⟨l,y⟩;obtain⟨ch,rfl⟩:=eO y;exact ff rfl rfl ((cO M).below (TH.drew.trans (l.mono TG))) (cO R).2.1 y (cO V)
      .refine hZ rfl (λK r=>?_) n9;go_simp;refine r _ _ ?_;clear r K;refine m6 (rs:=[5]) (by kernel_rfl) (by simp) ?_;refine hZ rfl (λK r=>?_) n9;go_simp;refine r _ _ ?_;clear r K;refine m6 (rs:=[7]) (by kernel_rfl) (by simp) ?_;refine hZ rfl (λK r=>?_) n9;refine di (by rfl) _ _ _ (by rfl) 115 (by rfl) _ (by rfl) (cO N) (cO L) ?_;rintro e H ⟨l,y⟩;obtain⟨ch,rfl⟩:=eO y;exact ff rfl rfl ((cO M).below (TH.drew.trans (l.mono TG))) (cO R).2.1 y (cO V)
     |some hh =>
      rw[u] at L;have ah:=cP u;clear u;apply mP (λG=>∃H,Hid (TI W3 H)/\G=H.setCell ⟨w.heap.size+1,2,none⟩ (.bool (hh != 0)));apply Exists.intro;apply And.intro
      case left =>
       go_region_law (refine di (by rfl) _ _ _ (by rfl) 115 (by rfl) _ (by rfl) (cO N) (cO L) ?_;rintro e H ⟨l,rfl⟩;dsimp only;have D:=(cO M).below (TH.drew.trans (l.mono TG));have k1:=D.tu.c2;have k2:=D.tu.fz 2;replace D:=cP D)
       all_goals exact⟨rfl,rfl,H,TH.drew.trans (l.mono TG),rfl⟩
      case right =>
      rintro G ⟨H,J,rfl⟩;clear y0 y1 y2 y3 y4 y5 y6 y7 y8 k0 L;have A:=cP (((cO M).below (cO J)).s2 (hh != 0));have ab:=cP (cI (cW (cO HR) (cO J)) (a:=⟨w.heap.size+1,2,none⟩) (by show w.heap.size+1<w.heap.size+1+1+1;omega) (.bool (hh != 0)));clear J;clear M;generalize H.setCell _ _=W4 at A ab ⊢;go_upto_region 8 with fail;obtain⟨g4,aw,k0,s⟩:=jz (cO R).1 (cO R).2.1 (cO af) (cO A).lL (i:=4) (by omega);have L:=cP (s W4.drew TH.drew);have y0:=(cO A).si.c0;have y1:=(cO A).si.c1;have y2:=(cO A).si.c2;have y3:=(cO A).si.c3;have y4:=(cO A).si.c4;have y5:=(cO A).si.c5;have y6:=(cO A).si.c6;have y7:=(cO A).si.c7;have y8:=(cO A).si.c8;clear s;cases u:Sp.ev (P.code 4) (E.jY v) with
      |none =>
       rw[u] at L;have V:Hid (∀G,TI w G->O (.returned nV) G):=by
        show ∀G,_
        intro G U;rw[<-cO hO];have hz:Sp.ia P E Es=none:=by
         unfold Sp.ia;rw[cO X];simp only;rw[cO g];simp only;rw[cO aa];simp only;unfold Sp.nL;rw[cO ah];simp only;rw[u]
        rw[hz];exact⟨U,rfl⟩
       clear u;refine wp_region_any (by kernel_rfl) ?_;change wpAny _ _ _ _ _ _ _ (World.drew _);refine m5 (i:=0) (v := ?_) rfl (by kernel_rfl) (by kernel_rfl) (by kernel_rfl) (by first|exact dF (d:=48) (by decide) (by decide)|exact dx (d:=48) (by decide) (by decide)) (Or.inl ⟨by rfl,?_⟩) ?_
       rotate_left
       .intro w;go_simp;first|done|with_reducible rfl
       refine m5 (i:=1) (v := ?_) rfl (by kernel_rfl) (by kernel_rfl) (by kernel_rfl) (by first|exact dF (d:=49) (by decide) (by decide)|exact dx (d:=49) (by decide) (by decide)) (Or.inl ⟨by rfl,?_⟩) ?_
       rotate_left
       .intro w;go_simp;first|done|with_reducible rfl
       refine m5 (i:=2) (v := ?_) rfl (by kernel_rfl) (by kernel_rfl) (by kernel_rfl) (by first|exact dF (d:=50) (by decide) (by decide)|exact dx (d:=50) (by decide) (by decide)) (Or.inl ⟨by rfl,?_⟩) ?_
       rotate_left
       .intro w;go_simp;first|done|with_reducible rfl
       refine m5 (i:=3) (v := ?_) rfl (by kernel_rfl) (by kernel_rfl) (by kernel_rfl) (by first|exact dF (d:=51) (by decide) (by decide)|exact dx (d:=51) (by decide) (by decide)) (Or.inl ⟨by rfl,?_⟩) ?_
       rotate_left
       .intro w;go_simp;first|done|with_reducible rfl
       refine m5 (i:=4) (v := ?_) rfl (by kernel_rfl) (by kernel_rfl) (by kernel_rfl) (by first|exact dF (d:=52) (by decide) (by decide)|exact dx (d:=52) (by decide) (by decide)) (Or.inl ⟨by rfl,?_⟩) ?_
       rotate_left
       .intro w;go_simp;first|done|with_reducible rfl
       refine m6 (rs:=[5,6]) (by kernel_rfl) (by simp) ?_;refine hZ rfl (λK r=>?_) ?_
       .go_simp;refine r _ _ ?_;clear r K;refine m6 (rs:=[6]) (by kernel_rfl) (by simp) ?_;refine hZ rfl (λK r=>?_) n9;go_simp;refine r _ _ ?_;clear r K;refine m6 (rs:=[7]) (by kernel_rfl) (by simp) ?_;refine hZ rfl (λK r=>?_) n9;refine di (by rfl) _ _ _ (by rfl) 115 (by rfl) _ (by rfl) (cO N) (cO L) ?_;rintro e H ⟨l,y⟩;obtain⟨ch,rfl⟩:=eO y;exact ff rfl rfl ((cO A).below (TH.drew.trans (l.mono TG))) (cO R).2.1 y (cO V)
       .refine hZ rfl (λK r=>?_) n9;go_simp;refine r _ _ ?_;clear r K;refine m6 (rs:=[5]) (by kernel_rfl) (by simp) ?_;refine hZ rfl (λK r=>?_) n9;go_simp;refine r _ _ ?_;clear r K;refine m6 (rs:=[7]) (by kernel_rfl) (by simp) ?_;refine hZ rfl (λK r=>?_) n9;refine di (by rfl) _ _ _ (by rfl) 115 (by rfl) _ (by rfl) (cO N) (cO L) ?_;rintro e H ⟨l,y⟩;obtain⟨ch,rfl⟩:=eO y;exact ff rfl rfl ((cO A).below (TH.drew.trans (l.mono TG))) (cO R).2.1 y (cO V)
      |some gg =>
       rw[u] at L;have ao:=cP u;clear u;apply mP (λG=>∃H,Hid (TI W4 H)/\G=H.setCell ⟨w.heap.size+1,3,none⟩ (Z Y gg));apply Exists.intro;apply And.intro
       case left =>
        go_region_law (refine di (by rfl) _ _ _ (by rfl) 115 (by rfl) _ (by rfl) (cO N) (cO L) ?_;rintro e H ⟨l,rfl⟩;dsimp only;have D:=(cO A).below (TH.drew.trans (l.mono TG));have k1:=D.tu.c3;have k2:=D.tu.fz 3;replace D:=cP D)
        all_goals exact⟨rfl,rfl,H,TH.drew.trans (l.mono TG),rfl⟩
       case right =>
       rintro G ⟨H,J,rfl⟩;clear y0 y1 y2 y3 y4 y5 y6 y7 y8 k0 L;have F:=cP (((cO A).below (cO J)).s3 gg);have ad:=cP (cI (cW (cO ab) (cO J)) (a:=⟨w.heap.size+1,3,none⟩) (by show w.heap.size+1<w.heap.size+1+1+1;omega) (Z Y gg));clear J;clear A ab;generalize H.setCell _ _=W5 at F ad ⊢;have ai:=cP (vP (cO hO) (t:=⟨v,hh != 0,gg,S⟩) (by
        unfold Sp.ia;rw[cO X];simp only;rw[cO g];simp only;rw[cO aa];simp only;unfold Sp.nL;rw[cO ah];simp only;rw[cO ao]
       ) (((((cO F).s0 v).s1 (.slice pb S.length kb)).s2 (hh != 0)).s3 gg) (cI (cI (cI (cI (cO ad) (a:=⟨w.heap.size+1,0,none⟩) (by show w.heap.size+1<w.heap.size+1+1+1;omega) (Z Y v)) (a:=⟨w.heap.size+1,1,none⟩) (by show w.heap.size+1<w.heap.size+1+1+1;omega) (.slice pb S.length kb)) (a:=⟨w.heap.size+1,2,none⟩) (by show w.heap.size+1<w.heap.size+1+1+1;omega) (.bool (hh != 0))) (a:=⟨w.heap.size+1,3,none⟩) (by show w.heap.size+1<w.heap.size+1+1+1;omega) (Z Y gg)) rfl)
       have x0:=(cO F).tu.c0;have x1:=(cO F).tu.c1;have x2:=(cO F).tu.c2;have x3:=(cO F).tu.c3;have x4:=(cO F).tu.ck;have x5:=(cO F).tu.fz 0;have x6:=(cO F).tu.fz 1;have x7:=(cO F).tu.fz 2;have x8:=(cO F).tu.fz 3;have x9:=(cO F).tu.fk;clear F ad;go_wp2;exact cO ai _ rfl rfl
end
end Go.Proofs.YtgkkdpegcieakaaGreatDoor
