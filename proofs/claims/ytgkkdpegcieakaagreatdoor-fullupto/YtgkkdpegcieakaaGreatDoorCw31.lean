import Derived.Test.YtgkkdpegcieakaaGreatDoorCw23
set_option linter.all false
set_option maxRecDepth 100000
set_option maxHeartbeats 16000000
namespace Go.Proofs.YtgkkdpegcieakaaGreatDoor
open Go.Proofs.Tryz
open Value renaming int→Z,slice→J,string→H,bool→WW,agg→WY
open Obj renaming cells→D
open Option renaming none→U,some→S
open _root_.Array renaming size→K
open World renaming cell?→Xc,alloc→Xe,heap→E
open IntKind renaming i64→Y
open Go renaming World→WR,Value→WS,Calls→WT
section
open Go.RowKit
theorem sx(nm:_)(x:Int)(f:WS)(w:WR):Sem.run prog (Instr.field 152 (WY #[H nm,Z Y x,f]) 1) w=.ok (Z Y x) w:=by first|kernel_rfl|rfl|(simp[Instr.field];trace_state;done)
variable {w:WR}
theorem Ej{P:Program}{b:Array Oper}{o:Oper}{a:Act}{K:Act->WR->Prop}{Q:Exit->Act->WR->Prop}{E:Prop}(l:o.guard=U)(t:TypeId)(x:Operand)(i:Nat)(j:o.op=Op.field t x i)(v:WS)(m:Sem.run P (Instr.field t (a.eval x) i) w=.ok v w)(h:K (a.put o.dst v) w): if Region.wanted o (yielded b a.tmps)=true then Oper.wp P o a w K Q else E:=by
 have r:Region.wanted o (yielded b a.tmps)=true:=by simp[Region.wanted,l]
 rw[T0 r];unfold Oper.wp;have e:(execOp a.eval o).run P w=.ok (.value v) w:=by
  simp[execOp,j,m,Result.andThen]
 rw[e,Oper.upon_value];exact h
theorem La{P:Program}{c:Code}{Q:Exit->Act->WR->Prop}{a:Act}(R:WS->WR->Prop)(h:∃A:WS->WS->WS->Act,c.wp P (sY λx j b=>x=.normal/\∃u1 u2 v,j=A u1 u2 v/\R v b) a w/\∀u1 u2 v b,R v b->Q .normal (A u1 u2 v) b): c.wp P Q a w:=by
 obtain⟨A,l,m⟩:=h;refine Code.wp_mono (λe a w h=>?_) l;obtain⟨rfl,u1,u2,v,rfl,r⟩:=kX _ _ _ h;exact m _ _ _ _ r
def fS(W:WR)(R:Nat)(a b c:WS):WR:=((W.setCell ⟨R,0,U⟩ a).setCell ⟨R,1,U⟩ b).setCell ⟨R,2,U⟩ c
theorem mP{W:WR}{R:Nat}(h:WQ w W)(e:K (E w)<=R)(a b c:WS): WQ w (fS W R a b c):=((h.setCell (p:=⟨R,0,U⟩) e _).setCell (p:=⟨R,1,U⟩) e _).setCell (p:=⟨R,2,U⟩) e _
theorem pG{W:WR}{R B t size n:Nat}{v:WS}{j:List WS}(h:W.ownsRow B t size v n j)(e:R<B)(a b c:WS):(fS W R a b c).ownsRow B t size v n j:=Um (Um (Um h (a:=⟨R,0,U⟩) e _) (a:=⟨R,1,U⟩) e _) (a:=⟨R,2,U⟩) e _
def OT(P:Sp.Pg)(step:Int)(c:Sp.Cfg)(n:Nat)(w:WR)(e:Ending)(w':WR):Prop:=WQ w w'/\∃sl,e=.returned (WY #[Z Y step,sl,Z Y (Sp.eR P.al)])/\w'.ownsRow (K (E w)) 104 4 sl n (jg c.val c.fC [] (List.replicate n (Sp.eR P.pB)) n)
def uC(c:Sp.Cfg)(b:Int)(k:Nat):List WS:=(List.range k).flatMap λm=>[Z Y (c.val.getD m 0),WW (c.fC.getD m false),Z Y 0,Z Y b]
theorem Fo(c:Sp.Cfg)(b:Int)(k:Nat):uC c b (k+1)=uC c b k++[Z Y (c.val.getD k 0),WW (c.fC.getD k false),Z Y 0,Z Y b]:=by
 unfold uC;rw[List.range_succ,V0];simp
theorem RV(c:Sp.Cfg)(b:Int)(n:Nat):∀k,k<=n->uC c b k=jg c.val c.fC [] (List.replicate n b) k:=by
 intro k
 induction k with
 |zero=>intro _;rfl
 |succ k e =>
  intro j;rw[Fo,mx,e (by omega)]
  congr 1
  have:(List.replicate n b).getD k 0=b:=by rw[Uo,List.getElem?_replicate,T0 (by omega)];rfl
  rw[this];first|rfl|simp
theorem ES(B:Nat)(pf:Option Addr)(m kf:Nat)(pe:Option Addr)(ke cY:Nat)(step:Int)(p:Option Addr)(n cap:Nat)(P:Sp.Pg)(c:Sp.Cfg)(w:WR)(hp:jJ w B P)(hv:kg w p c n)(hn:n<=64):WT prog 43 #[WY (dV B pf m kf pe ke cY),Z Y step,J p n cap] w (OT P step c n w):=by
 obtain⟨t2,aC,aD,aE,aF⟩:=UB info_vertex;generalize hO:OT P step c n w=b;replace hO:=cT hO;have HP:=cT hp;have HV:=cT hv;have aP:=hp.lt;have aq:Hid (∀W,W=(w.alloc (D (dV B pf m kf pe ke cY) 75)).alloc (D #[Z Y 0,J U 0 0,Z Y 0] 80)->W.heap[K (E w)]?=S (D (dV B pf m kf pe ke cY) 75 (0,0))/\W.heap[K (E w)+1]?=S (D #[Z Y 0,J U 0 0,Z Y 0] 80 (0,0))/\WQ w W/\(K (E W))=K (E w)+1+1):=by
  show ∀W,_
  rintro W rfl;have z1:=Uv w (D (dV B pf m kf pe ke cY) 75);have z2:=Uv (w.alloc (D (dV B pf m kf pe ke cY) 75)) (D #[Z Y 0,J U 0 0,Z Y 0] 80);have b2:=T9 (w.alloc (D (dV B pf m kf pe ke cY) 75)) (D #[Z Y 0,J U 0 0,Z Y 0] 80);rw[z1] at b2;refine⟨?_,b2,((T4 _ w).alloc WN _).alloc (by rw[z1];omega) _,by omega⟩;rw[Ur _ _ _ (by rw[z1];omega)];exact T9 w _
 clear hp hv;unfold dV at *;go_enter func43,ntmps43;go_wp2_with fail;generalize hW:Xe (Xe _ _) _=W0;obtain⟨ar,au,ah,aG⟩:=cS aq W0 hW.symm;clear hW aq;refine(EA B P W0 ((cS HP).below ah)).mono ?_;rintro e r ⟨nm,F,rfl,_,M⟩;have aH:Hid (r.heap[K (E w)]?=S (D (dV B pf m kf pe ke cY) 75 (0,0))):=(M.block _ (by omega)).trans ar;have aI:Hid (r.heap[K (E w)+1]?=S (D #[Z Y 0,J U 0 0,Z Y 0] 80 (0,0))):=(M.block _ (by omega)).trans au;have af:WQ w r:=ah.trans (M.mono (by omega));have aQ:K (E w)+1<K (E r):=by have:=M.size;omega
 obtain⟨N,av⟩:∃N,Hid (Sp.eR P.al=N):=⟨_,rfl⟩
 rw[cS av];have aw:Hid (EM (r.alloc (D #[Z Y step,J U 0 0,Z Y N] 80)) (K (E r)) step (J U 0 0) N 0 (uC c (Sp.eR P.pB) 0)):=EM.new (T9 r _);have ax:Hid (WQ r (r.alloc (D #[Z Y step,J U 0 0,Z Y N] 80))):=WO.alloc WN _;clear ar au ah aG M;go_wp2_with fail;rw[sx];go_wp2_with fail
 go_loopw [18] (λi wr=>∃(k:Nat) (sl:WS),k<=n/\i=Z Y k/\Hid (EM wr (K (E r)) step sl N k (uC c (Sp.eR P.pB) k))/\Hid (WQ r wr)) (λi _=>n-(intOf i).toNat)
 case atStart=>exact⟨0,_,Ud _,rfl,aw,ax⟩
 case round =>
  clear aw ax;obtain⟨k,sl,hk,rfl,HC,HB⟩:=hrel;have aa:WQ w wr:=af.trans ((cS HB).mono af.size);by_cases aJ:k<n
  .have ay:(k:Int)<(n:Int):=by omega
   have g0:(0:Int)<=(k:Int):=UF _;obtain⟨g,rfl,hg,d0,d1,d2,d3⟩:=((cS HV).below aa) k aJ;have ai:=cT (Fo c (Sp.eR P.pB) k);generalize c.val.getD k 0=x0 at *;generalize c.fC.getD k false=x1 at *;generalize c.iI.getD k 0=x2 at *;generalize c.jf.getD k 0=x3 at *;obtain⟨s,ab⟩:∃s,Hid (Sp.eR P.pB=s):=⟨_,rfl⟩
   go_upto_region 5 with fail;generalize aj:Xe _ _=Q;have T:WQ wr Q:=by rw[<-aj];exact WO.alloc WN _
   have V:Q.heap[K (E wr)]?=S (D #[Z Y x0,WW x1,Z Y x2,Z Y x3] 104 (0,0)):=by rw[<-aj];exact T9 wr _
   clear aj d0 d1 d2 d3;have G:=cT ((cS HC).below T);rw[cS ab] at G;have ak:=cT ((cS HB).trans (T.mono (cS HB).size));have y0:Q.cell? ⟨K (E wr),0,U⟩=S (Z Y x0):=by simp[Xc,V]
   have y1:Q.cell? ⟨K (E wr),1,U⟩=S (WW x1):=by simp[Xc,V]
   have az:=((cS ak).block (K (E w)) (by omega)).trans (cS aH);have j0:Q.cell? ⟨K (E w),0,U⟩=S (.pointer (S ⟨B,0,U⟩)):=by simp[Xc,az,dV]
   have c1:=(cS G).c1;have aK:Hid (∀W,WQ Q W->WT prog 76 #[.pointer (S ⟨B,0,U⟩)] W (oI P.pB W)):=by
    show ∀W,_
    intro W hW;exact KO B P W ((cS HP).below (aa.trans ((T.trans (hW.mono T.size)).mono aa.size)))
   have aL:Hid (∀(args:Array WS) (w:WR),(callFunc 76 args).run prog w=.ok (.enter 76 args) w):=cZ func76 (by kernel_rfl) (by kernel_rfl);have aA:K (E wr)<K (E Q):=Ui Q _ y0;have aR:=(cS G).lt;rw[cS ab] at ai;clear az V T hg;apply La (λy w'=>Hid (EM w' (K (E r)) step y N (k+1) (uC c s (k+1)))/\Hid (WQ r w'));apply Exists.intro;apply And.intro
   case left =>
    go_region_law (first
    |(refine du (by rfl) _ _ _ (by rfl) 76 (by rfl) _ (by rfl) (cS aL) (cS aK _ (by first|exact T4 _ _|exact WO.drew)) ?_;rintro e C ⟨an,F2,he,_,X⟩;rw[cS ab] at he;obtain rfl:=he.symm;dsimp only;have z:WQ Q C:=(by first|exact X|exact WO.drew.trans (X.mono WN));have q1:=((cS G).below z).c1;have q2:C.cell? ⟨K (E wr),0,U⟩=S (Z Y x0):=(z.cell (p:=⟨K (E wr),0,U⟩) aA).trans y0;have q3:C.cell? ⟨K (E wr),1,U⟩=S (WW x1):=(z.cell (p:=⟨K (E wr),1,U⟩) aA).trans y1;have q4:=z.size;have q7:=((cS G).below z).lt;have q5:=cT z;have q6:∀W,Sem.run prog (Instr.field 152 (WY #[H an,Z Y s,.func (.func F2) #[] #[]]) 1) W=.ok (Z Y s) W:=sx _ _ _;clear z X)
     | (refine Ej (by rfl) _ _ _ (by rfl) _ (sx _ _ _ _) ?_)
     | (have j:=(cS G).below (cS q5);refine step_append_lies _ (by rfl) _ _ _ (by rfl) (K (E r)+1) 104 t2 _ 4 32 underlying78 aC aD aE aF rfl (by omega) sl _ _ (by rfl) (by first | exact(j.o.alloc _).drew | exact j.o.alloc _) ⟨K (E C),0,U⟩ 1 1 [Z Y x0,WW x1,Z Y 0,Z Y s] (by rfl) (by rfl) (We (cs := #[Z Y x0,WW x1,Z Y 0,Z Y s]) (t:=104) (fr:=(0,0)) (T9 C _)) (by simp[Value.oneCell']) (by omega) (by unfold maxLen;omega) (by omega) (by simp;omega) (K (E C)+1) (by simp) ?_;intro g1 ad w2 q l aS aO;have L:WQ C (C.alloc (D #[Z Y x0,WW x1,Z Y 0,Z Y s] 104)):=(T4 (K (E C)) C).alloc WN _;have ag:S (K (E r))≠sl.ownBlock:=(λe=>by have:=(j.o.lt _ e.symm).1;omega);have aT:w2.cell? ⟨K (E r),1,U⟩=S sl:=(l.cell_far ⟨K (E r),1,U⟩ (by simp;omega) ag).trans (by first | exact(j.below L).c1 | exact(j.below L.drew).c1);have aU:w2.frozen? ⟨K (E r),1,U⟩=false:=(l.frozen_far ⟨K (E r),1,U⟩ (by simp;omega) ag).trans (by first | exact(j.below L).fz 1 | exact(j.below L.drew).fz 1)))
    all_goals
     have ae:WQ r C:=(cS ak).trans ((cS q5).mono (cS ak).size)
     first
      | (have u:=(j.below L).app l q
         have ao:=o9 (ae.trans (L.mono ae.size)) (j.below L).lt (j.below L).o l 1 (J (S ⟨g1,0,U⟩) (k+1) ad);rw[<-cS ai] at u;generalize Value.slice (S ⟨g1,0,U⟩) (k+1) ad=y at *;generalize Value.agg #[H an,Z Y s,.func (.func F2) #[] #[]]=u1;generalize Value.slice (S ⟨K (E C),0,U⟩) 1 1=u2;exact⟨O,u1,u2,y,O,u,ao⟩)
      | (have u:=(j.below L.drew).app l q
         have ao:=o9 (ae.trans (L.drew.mono ae.size)) (j.below L.drew).lt (j.below L.drew).o l 1 (J (S ⟨g1,0,U⟩) (k+1) ad);rw[<-cS ai] at u;generalize Value.slice (S ⟨g1,0,U⟩) (k+1) ad=y at *;generalize Value.agg #[H an,Z Y s,.func (.func F2) #[] #[]]=u1;generalize Value.slice (S ⟨K (E C),0,U⟩) 1 1=u2;exact⟨O,u1,u2,y,O,u,ao⟩)
      |trace_state
   case right =>
   rintro u1 u2 y w4 ⟨aB,aM⟩;rw[<-cS ab] at aB;go_wp2;go_roundw
   case rel=>exact⟨k+1,y,by omega,by go_num,aB,aM⟩
   case measure=>simp[intOf];omega
  .obtain rfl:k=n:=by omega
   have ay:¬(k:Int)<(k:Int):=by omega
   have I:=cS HC;have A:wr.heap[K (E w)+1]?=_:=((cS HB).block _ (by omega)).trans (cS aI);have r0:wr.cell? ⟨K (E w)+1,0,U⟩=S (Z Y 0):=by simp[Xc,A]
   have r1:wr.cell? ⟨K (E w)+1,1,U⟩=S (J U 0 0):=by simp[Xc,A]
   have r2:wr.cell? ⟨K (E w)+1,2,U⟩=S (Z Y 0):=by simp[Xc,A]
   have aV:wr.frozen? ⟨K (E w)+1,0,U⟩=false:=by simp[World.frozen?,A]
   have aW:wr.frozen? ⟨K (E w)+1,1,U⟩=false:=by simp[World.frozen?,A]
   have aX:wr.frozen? ⟨K (E w)+1,2,U⟩=false:=by simp[World.frozen?,A]
   obtain⟨q0,k0,e0,_⟩:=dm I.o;subst e0;have aN:Hid (b (.returned (WY #[Z Y step,J q0 k k0,Z Y N])) (fS wr (K (E w)+1) (Z Y step) (J q0 k k0) (Z Y N))):=by
    have h1:=fy (pG I.o (R:=K (E w)+1) (by omega) (Z Y step) (J q0 k k0) (Z Y N)) (B:=K (E w)) (by omega);rw[RV c _ k k WN] at h1
    show b _ _
    rw[<-cS hO];exact⟨mP aa (by omega) _ _ _,_,by rw[cS av],h1⟩
   have x0:=I.c0;have x1:=I.c1;have x2:=I.c2;clear HC HB A I;go_wp2;exact T8 (v := WY #[Z Y step,J q0 k k0,Z Y N]) (by simp[results,results43,go_sem,r0,r1,r2]) O (cS aN)
end
end Go.Proofs.YtgkkdpegcieakaaGreatDoor
