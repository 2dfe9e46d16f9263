import Derived.Test.YtgkkdpegcieakaaGreatDoorCz21
set_option linter.unusedVariables false
set_option linter.unusedSimpArgs false
set_option maxRecDepth 100000
set_option maxHeartbeats 16000000
namespace Go.Proofs.YtgkkdpegcieakaaGreatDoor
open Go.Proofs.Tryz
open Value renaming int→Z
open IntKind renaming i64→Y
open Go renaming World→TJ,Value→TK,Calls→TL
section
open Go.RowKit
theorem sX(nm:_)(x:Int)(f:TK)(w:TJ):Sem.run prog (Instr.field 152 (.agg #[.string nm,Z Y x,f]) 1) w=.ok (Z Y x) w:=by first|kernel_rfl|rfl|(simp[Instr.field];trace_state;done)
variable {w:TJ}
theorem BN{P:Program}{b:Array Oper}{o:Oper}{a:Act}{K:Act->TJ->Prop}{Q:Exit->Act->TJ->Prop}{E:Prop}(l:o.guard=none)(t:TypeId)(x:Operand)(i:Nat)(j:o.op=Op.field t x i)(v:TK)(m:Sem.run P (Instr.field t (a.eval x) i) w=.ok v w)(h:K (a.put o.dst v) w): if Region.wanted o (yielded b a.tmps)=true then Oper.wp P o a w K Q else E:=by
 have r:Region.wanted o (yielded b a.tmps)=true:=by simp[Region.wanted,l]
 rw[cg r];unfold Oper.wp;have e:(execOp a.eval o).run P w=.ok (.value v) w:=by
  simp[execOp,j,m,Result.andThen]
 rw[e,Oper.upon_value];exact h
theorem J2{P:Program}{c:Code}{Q:Exit->Act->TJ->Prop}{a:Act}(R:TK->TJ->Prop)(h:∃A:TK->TK->TK->Act,c.wp P (td λx j b=>x=.normal/\∃u1 u2 v,j=A u1 u2 v/\R v b) a w/\∀u1 u2 v b,R v b->Q .normal (A u1 u2 v) b): c.wp P Q a w:=by
 obtain⟨A,l,m⟩:=h;refine Code.wp_mono (λe a w h=>?_) l;obtain⟨rfl,u1,u2,v,rfl,r⟩:=lA _ _ _ h;exact m _ _ _ _ r
def fL(W:TJ)(R:Nat)(a b c:TK):TJ:=((W.setCell ⟨R,0,none⟩ a).setCell ⟨R,1,none⟩ b).setCell ⟨R,2,none⟩ c
theorem mN{W:TJ}{R:Nat}(h:TI w W)(e:w.heap.size<=R)(a b c:TK): TI w (fL W R a b c):=((h.setCell (p:=⟨R,0,none⟩) e _).setCell (p:=⟨R,1,none⟩) e _).setCell (p:=⟨R,2,none⟩) e _
theorem pM{W:TJ}{R B t size n:Nat}{v:TK}{j:List TK}(h:W.ownsRow B t size v n j)(e:R<B)(a b c:TK):(fL W R a b c).ownsRow B t size v n j:=cI (cI (cI h (a:=⟨R,0,none⟩) e _) (a:=⟨R,1,none⟩) e _) (a:=⟨R,2,none⟩) e _
def Mw(P:Sp.Pg)(step:Int)(c:Sp.Cfg)(n:Nat)(w:TJ)(e:Ending)(w':TJ):Prop:=TI w w'/\∃sl,e=.returned (.agg #[Z Y step,sl,Z Y (Sp.eN P.al)])/\w'.ownsRow w.heap.size 104 4 sl n (jm c.val c.fC [] (List.replicate n (Sp.eN P.pK)) n)
def uC(c:Sp.Cfg)(b:Int)(k:Nat):List TK:=(List.range k).flatMap λm=>[Z Y (c.val.getD m 0),.bool (c.fC.getD m false),Z Y 0,Z Y b]
theorem Db(c:Sp.Cfg)(b:Int)(k:Nat):uC c b (k+1)=uC c b k++[Z Y (c.val.getD k 0),.bool (c.fC.getD k false),Z Y 0,Z Y b]:=by
 unfold uC;rw[List.range_succ,LV];simp
theorem PT(c:Sp.Cfg)(b:Int)(n:Nat):∀k,k<=n->uC c b k=jm c.val c.fC [] (List.replicate n b) k:=by
 intro k
 induction k with
 |zero=>intro _;rfl
 |succ k e =>
  intro j;rw[Db,mo,e (by omega)]
  congr 1
  have:(List.replicate n b).getD k 0=b:=by rw[cL,List.getElem?_replicate,cg (by omega)];rfl
  rw[this];first|rfl|simp
theorem D6(B:Nat)(pf:Option Addr)(m kf:Nat)(pe:Option Addr)(ke cT:Nat)(step:Int)(p:Option Addr)(n cap:Nat)(P:Sp.Pg)(c:Sp.Cfg)(w:TJ)(hp:jJ w B P)(hv:kl w p c n)(hn:n<=64):TL prog 43 #[.agg (dW B pf m kf pe ke cT),Z Y step,.slice p n cap] w (Mw P step c n w):=by
 obtain⟨t2,au,av,aw,ax⟩:=fa info_vertex;generalize hO:Mw P step c n w=O;replace hO:=cP hO;have HP:=cP hp;have HV:=cP hv;have aH:=hp.lt;have af:Hid (∀W,W=(w.alloc (.cells (dW B pf m kf pe ke cT) 75)).alloc (.cells #[Z Y 0,.slice none 0 0,Z Y 0] 80)->W.heap[w.heap.size]?=some (.cells (dW B pf m kf pe ke cT) 75 (0,0))/\W.heap[w.heap.size+1]?=some (.cells #[Z Y 0,.slice none 0 0,Z Y 0] 80 (0,0))/\TI w W/\W.heap.size=w.heap.size+1+1):=by
  show ∀W,_
  rintro W rfl;have z1:=ee w (.cells (dW B pf m kf pe ke cT) 75);have z2:=ee (w.alloc (.cells (dW B pf m kf pe ke cT) 75)) (.cells #[Z Y 0,.slice none 0 0,Z Y 0] 80);have b2:=ct (w.alloc (.cells (dW B pf m kf pe ke cT) 75)) (.cells #[Z Y 0,.slice none 0 0,Z Y 0] 80);rw[z1] at b2;refine⟨?_,b2,((cj _ w).alloc TG _).alloc (by rw[z1];omega) _,by omega⟩;rw[cN _ _ _ (by rw[z1];omega)];exact ct w _
 clear hp hv;unfold dW at *;go_enter func43,ntmps43;go_wp2_with fail;generalize hW:World.alloc (World.alloc _ _) _=W0;obtain⟨ag,ah,q,ay⟩:=cO af W0 hW.symm;clear hW af;refine(Dc B P W0 ((cO HP).below q)).mono ?_;rintro e l ⟨nm,F,rfl,_,G⟩;have az:Hid (l.heap[w.heap.size]?=some (.cells (dW B pf m kf pe ke cT) 75 (0,0))):=(G.block _ (by omega)).trans ag;have aA:Hid (l.heap[w.heap.size+1]?=some (.cells #[Z Y 0,.slice none 0 0,Z Y 0] 80 (0,0))):=(G.block _ (by omega)).trans ah;have V:TI w l:=q.trans (G.mono (by omega));have aI:w.heap.size+1<l.heap.size:=by have:=G.size;omega
 obtain⟨H,ai⟩:∃H,Hid (Sp.eN P.al=H):=⟨_,rfl⟩
 rw[cO ai];have aj:Hid (Ds (l.alloc (.cells #[Z Y step,.slice none 0 0,Z Y H] 80)) l.heap.size step (.slice none 0 0) H 0 (uC c (Sp.eN P.pK) 0)):=Ds.new (ct l _);have ak:Hid (TI l (l.alloc (.cells #[Z Y step,.slice none 0 0,Z Y H] 80))):=TH.alloc TG _;clear ag ah q ay G;go_wp2_with fail;rw[sX];go_wp2_with fail
 go_loopw [18] (λi wr=>∃(k:Nat) (sl:TK),k<=n/\i=Z Y k/\Hid (Ds wr l.heap.size step sl H k (uC c (Sp.eN P.pK) k))/\Hid (TI l wr)) (λi _=>n-(intOf i).toNat)
 case atStart=>exact⟨0,_,cy _,rfl,aj,ak⟩
 case round =>
  clear aj ak;obtain⟨k,sl,hk,rfl,HC,HB⟩:=hrel;have Q:TI w wr:=V.trans ((cO HB).mono V.size);by_cases aB:k<n
  .have an:(k:Int)<(n:Int):=by omega
   have g0:(0:Int)<=(k:Int):=iJ _;obtain⟨g,rfl,hg,d0,d1,d2,d3⟩:=((cO HV).below Q) k aB;have s:=cP (Db c (Sp.eN P.pK) k);generalize c.val.getD k 0=x0 at *;generalize c.fC.getD k false=x1 at *;generalize c.iK.getD k 0=x2 at *;generalize c.je.getD k 0=x3 at *;obtain⟨N,S⟩:∃N,Hid (Sp.eN P.pK=N):=⟨_,rfl⟩
   go_upto_region 5 with fail;generalize aa:World.alloc _ _=I;have J:TI wr I:=by rw[<-aa];exact TH.alloc TG _
   have K:I.heap[wr.heap.size]?=some (.cells #[Z Y x0,.bool x1,Z Y x2,Z Y x3] 104 (0,0)):=by rw[<-aa];exact ct wr _
   clear aa d0 d1 d2 d3;have C:=cP ((cO HC).below J);rw[cO S] at C;have ab:=cP ((cO HB).trans (J.mono (cO HB).size));have y0:I.cell? ⟨wr.heap.size,0,none⟩=some (Z Y x0):=by simp[World.cell?,K]
   have y1:I.cell? ⟨wr.heap.size,1,none⟩=some (.bool x1):=by simp[World.cell?,K]
   have ao:=((cO ab).block w.heap.size (by omega)).trans (cO az);have j0:I.cell? ⟨w.heap.size,0,none⟩=some (.pointer (some ⟨B,0,none⟩)):=by simp[World.cell?,ao,dW]
   have c1:=(cO C).c1;have aC:Hid (∀W,TI I W->TL prog 76 #[.pointer (some ⟨B,0,none⟩)] W (oH P.pK W)):=by
    show ∀W,_
    intro W hW;exact H5 B P W ((cO HP).below (Q.trans ((J.trans (hW.mono J.size)).mono Q.size)))
   have aD:Hid (∀(args:Array TK) (w:TJ),(callFunc 76 args).run prog w=.ok (.enter 76 args) w):=cV func76 (by kernel_rfl) (by kernel_rfl);have aq:wr.heap.size<I.heap.size:=cE I _ y0;have aJ:=(cO C).lt;rw[cO S] at s;clear ao K J hg;apply J2 (λu w'=>Hid (Ds w' l.heap.size step u H (k+1) (uC c N (k+1)))/\Hid (TI l w'));apply Exists.intro;apply And.intro
   case left =>
    go_region_law (first
    | (refine di (by rfl) _ _ _ (by rfl) 76 (by rfl) _ (by rfl) (cO aD) (cO aC _ (by first|exact cj _ _|exact TH.drew)) ?_;rintro e A ⟨ad,F2,he,_,L⟩;rw[cO S] at he;obtain rfl:=he.symm;dsimp only;have y:TI I A:=(by first|exact L|exact TH.drew.trans (L.mono TG));have q1:=((cO C).below y).c1;have q2:A.cell? ⟨wr.heap.size,0,none⟩=some (Z Y x0):=(y.cell (p:=⟨wr.heap.size,0,none⟩) aq).trans y0;have q3:A.cell? ⟨wr.heap.size,1,none⟩=some (.bool x1):=(y.cell (p:=⟨wr.heap.size,1,none⟩) aq).trans y1;have q4:=y.size;have q7:=((cO C).below y).lt;have q5:=cP y;have q6:∀W,Sem.run prog (Instr.field 152 (.agg #[.string ad,Z Y N,.func (.func F2) #[] #[]]) 1) W=.ok (Z Y N) W:=sX _ _ _;clear y L)
     | (refine BN (by rfl) _ _ _ (by rfl) _ (sX _ _ _ _) ?_)
     | (have b:=(cO C).below (cO q5);refine step_append_lies _ (by rfl) _ _ _ (by rfl) (l.heap.size+1) 104 t2 _ 4 32 underlying78 au av aw ax rfl (by omega) sl _ _ (by rfl) (by first | exact(b.o.alloc _).drew | exact b.o.alloc _) ⟨A.heap.size,0,none⟩ 1 1 [Z Y x0,.bool x1,Z Y 0,Z Y N] (by rfl) (by rfl) (Rh (cs := #[Z Y x0,.bool x1,Z Y 0,Z Y N]) (t:=104) (fr:=(0,0)) (ct A _)) (by simp[Value.oneCell']) (by omega) (by unfold maxLen;omega) (by omega) (by simp;omega) (A.heap.size+1) (by simp) ?_;intro g1 T w2 M j aK aG;have E:TI A (A.alloc (.cells #[Z Y x0,.bool x1,Z Y 0,Z Y N] 104)):=(cj A.heap.size A).alloc TG _;have X:some l.heap.size≠sl.ownBlock:=(λe=>by have:=(b.o.lt _ e.symm).1;omega);have aL:w2.cell? ⟨l.heap.size,1,none⟩=some sl:=(j.cell_far ⟨l.heap.size,1,none⟩ (by simp;omega) X).trans (by first | exact(b.below E).c1 | exact(b.below E.drew).c1);have aM:w2.frozen? ⟨l.heap.size,1,none⟩=false:=(j.frozen_far ⟨l.heap.size,1,none⟩ (by simp;omega) X).trans (by first | exact(b.below E).fz 1 | exact(b.below E.drew).fz 1)))
    all_goals
     have U:TI l A:=(cO ab).trans ((cO q5).mono (cO ab).size)
     first
      | (have r:=(b.below E).app j M
         have ae:=pB (U.trans (E.mono U.size)) (b.below E).lt (b.below E).o j 1 (.slice (some ⟨g1,0,none⟩) (k+1) T);rw[<-cO s] at r;generalize Value.slice (some ⟨g1,0,none⟩) (k+1) T=u at *;generalize Value.agg #[.string ad,Z Y N,.func (.func F2) #[] #[]]=u1;generalize Value.slice (some ⟨A.heap.size,0,none⟩) 1 1=u2;exact⟨rfl,u1,u2,u,rfl,r,ae⟩)
      | (have r:=(b.below E.drew).app j M
         have ae:=pB (U.trans (E.drew.mono U.size)) (b.below E.drew).lt (b.below E.drew).o j 1 (.slice (some ⟨g1,0,none⟩) (k+1) T);rw[<-cO s] at r;generalize Value.slice (some ⟨g1,0,none⟩) (k+1) T=u at *;generalize Value.agg #[.string ad,Z Y N,.func (.func F2) #[] #[]]=u1;generalize Value.slice (some ⟨A.heap.size,0,none⟩) 1 1=u2;exact⟨rfl,u1,u2,u,rfl,r,ae⟩)
      |trace_state
   case right =>
   rintro u1 u2 u w4 ⟨ar,aE⟩;rw[<-cO S] at ar;go_wp2;go_roundw
   case rel=>exact⟨k+1,u,by omega,by go_num,ar,aE⟩
   case measure=>simp[intOf];omega
  .obtain rfl:k=n:=by omega
   have an:¬(k:Int)<(k:Int):=by omega
   have D:=cO HC;have z:wr.heap[w.heap.size+1]?=_:=((cO HB).block _ (by omega)).trans (cO aA);have r0:wr.cell? ⟨w.heap.size+1,0,none⟩=some (Z Y 0):=by simp[World.cell?,z]
   have r1:wr.cell? ⟨w.heap.size+1,1,none⟩=some (.slice none 0 0):=by simp[World.cell?,z]
   have r2:wr.cell? ⟨w.heap.size+1,2,none⟩=some (Z Y 0):=by simp[World.cell?,z]
   have aN:wr.frozen? ⟨w.heap.size+1,0,none⟩=false:=by simp[World.frozen?,z]
   have aO:wr.frozen? ⟨w.heap.size+1,1,none⟩=false:=by simp[World.frozen?,z]
   have aP:wr.frozen? ⟨w.heap.size+1,2,none⟩=false:=by simp[World.frozen?,z]
   obtain⟨q0,k0,e0,_⟩:=dd D.o;subst e0;have aF:Hid (O (.returned (.agg #[Z Y step,.slice q0 k k0,Z Y H])) (fL wr (w.heap.size+1) (Z Y step) (.slice q0 k k0) (Z Y H))):=by
    have h1:=fA (pM D.o (R:=w.heap.size+1) (by omega) (Z Y step) (.slice q0 k k0) (Z Y H)) (B:=w.heap.size) (by omega);rw[PT c _ k k TG] at h1
    show O _ _
    rw[<-cO hO];exact⟨mN Q (by omega) _ _ _,_,by rw[cO ai],h1⟩
   have x0:=D.c0;have x1:=D.c1;have x2:=D.c2;clear HC HB z D;go_wp2;exact cr (v := .agg #[Z Y step,.slice q0 k k0,Z Y H]) (by simp[results,results43,go_sem,r0,r1,r2]) rfl (cO aF)
end
end Go.Proofs.YtgkkdpegcieakaaGreatDoor
