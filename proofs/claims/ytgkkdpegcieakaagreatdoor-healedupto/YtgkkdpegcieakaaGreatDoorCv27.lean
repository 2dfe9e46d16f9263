import Derived.Test.YtgkkdpegcieakaaGreatDoorCv19
set_option linter.all false
set_option maxRecDepth 100000
set_option maxHeartbeats 0
namespace Go.Proofs.YtgkkdpegcieakaaGreatDoor
open Go.Proofs.Tryz
open Value renaming int→Z,slice→J,string→H,bool→Wa,agg→Wc
open Obj renaming cells→D
open Option renaming none→U,some→S
open _root_.Array renaming size→N
open World renaming cell?→Wj,alloc→Wl,heap→E
open IntKind renaming i64→Y
open Go renaming World→V5,Value→V6,Calls→V7
section
open Go.RowKit
theorem tr(nm:_)(x:Int)(f:V6)(w:V5):Sem.run prog (Instr.field 152 (Wc #[H nm,Z Y x,f]) 1) w=.ok (Z Y x) w:=by first|kernel_rfl|rfl|(simp[Instr.field];trace_state;done)
variable {w:V5}
theorem CJ{P:Program}{b:Array Oper}{o:Oper}{a:Act}{K:Act->V5->Prop}{Q:Exit->Act->V5->Prop}{E:Prop}(l:o.guard=U)(t:TypeId)(x:Operand)(i:Nat)(j:o.op=Op.field t x i)(v:V6)(m:Sem.run P (Instr.field t (a.eval x) i) w=.ok v w)(h:K (a.put o.dst v) w): if Region.wanted o (yielded b a.tmps)=true then Oper.wp P o a w K Q else E:=by
 have r:Region.wanted o (yielded b a.tmps)=true:=by simp[Region.wanted,l]
 rw[Tg r];unfold Oper.wp;have e:(execOp a.eval o).run P w=.ok (.value v) w:=by
  simp[execOp,j,m,Result.andThen]
 rw[e,Oper.upon_value];exact h
theorem Ki{P:Program}{c:Code}{Q:Exit->Act->V5->Prop}{a:Act}(R:V6->V5->Prop)(h:∃A:V6->V6->V6->Act,c.wp P (sX λx j b=>x=.normal/\∃u1 u2 v,j=A u1 u2 v/\R v b) a w/\∀u1 u2 v b,R v b->Q .normal (A u1 u2 v) b): c.wp P Q a w:=by
 obtain⟨A,l,m⟩:=h;refine Code.wp_mono (λe a w h=>?_) l;obtain⟨rfl,u1,u2,v,rfl,r⟩:=ln _ _ _ h;exact m _ _ _ _ r
def fM(W:V5)(R:Nat)(a b c:V6):V5:=((W.setCell ⟨R,0,U⟩ a).setCell ⟨R,1,U⟩ b).setCell ⟨R,2,U⟩ c
theorem mO{W:V5}{R:Nat}(h:V4 w W)(e:N (E w)<=R)(a b c:V6): V4 w (fM W R a b c):=((h.setCell (p:=⟨R,0,U⟩) e _).setCell (p:=⟨R,1,U⟩) e _).setCell (p:=⟨R,2,U⟩) e _
theorem pG{W:V5}{R B t size n:Nat}{v:V6}{j:List V6}(h:W.ownsRow B t size v n j)(e:R<B)(a b c:V6):(fM W R a b c).ownsRow B t size v n j:=TA (TA (TA h (a:=⟨R,0,U⟩) e _) (a:=⟨R,1,U⟩) e _) (a:=⟨R,2,U⟩) e _
def N0(P:Sp.Pg)(step:Int)(c:Sp.Cfg)(n:Nat)(w:V5)(e:Ending)(w':V5):Prop:=V4 w w'/\∃sl,e=.returned (Wc #[Z Y step,sl,Z Y (Sp.eT P.al)])/\w'.ownsRow (N (E w)) 104 4 sl n (jk c.val c.fD [] (List.replicate n (Sp.eT P.pq)) n)
def uC(c:Sp.Cfg)(b:Int)(k:Nat):List V6:=(List.range k).flatMap λm=>[Z Y (c.val.getD m 0),Wa (c.fD.getD m false),Z Y 0,Z Y b]
theorem EU(c:Sp.Cfg)(b:Int)(k:Nat):uC c b (k+1)=uC c b k++[Z Y (c.val.getD k 0),Wa (c.fD.getD k false),Z Y 0,Z Y b]:=by
 unfold uC;rw[List.range_succ,Vg];simp
theorem QZ(c:Sp.Cfg)(b:Int)(n:Nat):∀k,k<=n->uC c b k=jk c.val c.fD [] (List.replicate n b) k:=by
 intro k
 induction k with
 |zero=>intro _;rfl
 |succ k e =>
  intro j;rw[EU,mq,e (by omega)]
  congr 1
  have:(List.replicate n b).getD k 0=b:=by rw[Ty,List.getElem?_replicate,Tg (by omega)];rfl
  rw[this];first|rfl|simp
theorem EO(B:Nat)(pf:Option Addr)(m kf:Nat)(pe:Option Addr)(ke cZ:Nat)(step:Int)(p:Option Addr)(n cap:Nat)(P:Sp.Pg)(c:Sp.Cfg)(w:V5)(hp:jH w B P)(hv:kA w p c n)(hn:n<=64):V7 prog 43 #[Wc (dY B pf m kf pe ke cZ),Z Y step,J p n cap] w (N0 P step c n w):=by
 obtain⟨t2,aC,aD,aE,aF⟩:=TN info_vertex;generalize hO:N0 P step c n w=b;replace hO:=cU hO;have HP:=cU hp;have HV:=cU hv;have aP:=hp.lt;have aq:Hid (∀W,W=(w.alloc (D (dY B pf m kf pe ke cZ) 75)).alloc (D #[Z Y 0,J U 0 0,Z Y 0] 80)->W.heap[N (E w)]?=S (D (dY B pf m kf pe ke cZ) 75 (0,0))/\W.heap[N (E w)+1]?=S (D #[Z Y 0,J U 0 0,Z Y 0] 80 (0,0))/\V4 w W/\(N (E W))=N (E w)+1+1):=by
  show ∀W,_
  rintro W rfl;have z1:=TK w (D (dY B pf m kf pe ke cZ) 75);have z2:=TK (w.alloc (D (dY B pf m kf pe ke cZ) 75)) (D #[Z Y 0,J U 0 0,Z Y 0] 80);have b2:=Tk (w.alloc (D (dY B pf m kf pe ke cZ) 75)) (D #[Z Y 0,J U 0 0,Z Y 0] 80);rw[z1] at b2;refine⟨?_,b2,((Th _ w).alloc V2 _).alloc (by rw[z1];omega) _,by omega⟩;rw[TD _ _ _ (by rw[z1];omega)];exact Tk w _
 clear hp hv;unfold dY at *;go_enter func43,ntmps43;go_wp2_with fail;generalize hW:Wl (Wl _ _) _=W0;obtain⟨ar,au,ah,aG⟩:=cT aq W0 hW.symm;clear hW aq;refine(Ez B P W0 ((cT HP).below ah)).mono ?_;rintro e r ⟨nm,F,rfl,_,L⟩;have aH:Hid (r.heap[N (E w)]?=S (D (dY B pf m kf pe ke cZ) 75 (0,0))):=(L.block _ (by omega)).trans ar;have aI:Hid (r.heap[N (E w)+1]?=S (D #[Z Y 0,J U 0 0,Z Y 0] 80 (0,0))):=(L.block _ (by omega)).trans au;have af:V4 w r:=ah.trans (L.mono (by omega));have aQ:N (E w)+1<N (E r):=by have:=L.size;omega
 obtain⟨M,av⟩:∃M,Hid (Sp.eT P.al=M):=⟨_,rfl⟩
 rw[cT av];have aw:Hid (EW (r.alloc (D #[Z Y step,J U 0 0,Z Y M] 80)) (N (E r)) step (J U 0 0) M 0 (uC c (Sp.eT P.pq) 0)):=EW.new (Tk r _);have ax:Hid (V4 r (r.alloc (D #[Z Y step,J U 0 0,Z Y M] 80))):=V3.alloc V2 _;clear ar au ah aG L;go_wp2_with fail;rw[tr];go_wp2_with fail
 go_loopw [18] (λi wr=>∃(k:Nat) (sl:V6),k<=n/\i=Z Y k/\Hid (EW wr (N (E r)) step sl M k (uC c (Sp.eT P.pq) k))/\Hid (V4 r wr)) (λi _=>n-(intOf i).toNat)
 case atStart=>exact⟨0,_,Tp _,rfl,aw,ax⟩
 case round =>
  clear aw ax;obtain⟨k,sl,hk,rfl,HC,HB⟩:=hrel;have aa:V4 w wr:=af.trans ((cT HB).mono af.size);by_cases aJ:k<n
  .have ay:(k:Int)<(n:Int):=by omega
   have g0:(0:Int)<=(k:Int):=TS _;obtain⟨g,rfl,hg,d0,d1,d2,d3⟩:=((cT HV).below aa) k aJ;have ai:=cU (EU c (Sp.eT P.pq) k);generalize c.val.getD k 0=x0 at *;generalize c.fD.getD k false=x1 at *;generalize c.iH.getD k 0=x2 at *;generalize c.jf.getD k 0=x3 at *;obtain⟨s,ab⟩:∃s,Hid (Sp.eT P.pq=s):=⟨_,rfl⟩
   go_upto_region 5 with fail;generalize aj:Wl _ _=Q;have T:V4 wr Q:=by rw[<-aj];exact V3.alloc V2 _
   have V:Q.heap[N (E wr)]?=S (D #[Z Y x0,Wa x1,Z Y x2,Z Y x3] 104 (0,0)):=by rw[<-aj];exact Tk wr _
   clear aj d0 d1 d2 d3;have G:=cU ((cT HC).below T);rw[cT ab] at G;have ak:=cU ((cT HB).trans (T.mono (cT HB).size));have y0:Q.cell? ⟨N (E wr),0,U⟩=S (Z Y x0):=by simp[Wj,V]
   have y1:Q.cell? ⟨N (E wr),1,U⟩=S (Wa x1):=by simp[Wj,V]
   have az:=((cT ak).block (N (E w)) (by omega)).trans (cT aH);have j0:Q.cell? ⟨N (E w),0,U⟩=S (.pointer (S ⟨B,0,U⟩)):=by simp[Wj,az,dY]
   have c1:=(cT G).c1;have aK:Hid (∀W,V4 Q W->V7 prog 76 #[.pointer (S ⟨B,0,U⟩)] W (oP P.pq W)):=by
    show ∀W,_
    intro W hW;exact Jp B P W ((cT HP).below (aa.trans ((T.trans (hW.mono T.size)).mono aa.size)))
   have aL:Hid (∀(args:Array V6) (w:V5),(callFunc 76 args).run prog w=.ok (.enter 76 args) w):=da func76 (by kernel_rfl) (by kernel_rfl);have aA:N (E wr)<N (E Q):=Tu Q _ y0;have aR:=(cT G).lt;rw[cT ab] at ai;clear az V T hg;apply Ki (λy w'=>Hid (EW w' (N (E r)) step y M (k+1) (uC c s (k+1)))/\Hid (V4 r w'));apply Exists.intro;apply And.intro
   case left =>
    go_region_law (first
    |(refine du (by rfl) _ _ _ (by rfl) 76 (by rfl) _ (by rfl) (cT aL) (cT aK _ (by first|exact Th _ _|exact V3.drew)) ?_;rintro e C ⟨an,F2,he,_,X⟩;rw[cT ab] at he;obtain rfl:=he.symm;dsimp only;have z:V4 Q C:=(by first|exact X|exact V3.drew.trans (X.mono V2));have q1:=((cT G).below z).c1;have q2:C.cell? ⟨N (E wr),0,U⟩=S (Z Y x0):=(z.cell (p:=⟨N (E wr),0,U⟩) aA).trans y0;have q3:C.cell? ⟨N (E wr),1,U⟩=S (Wa x1):=(z.cell (p:=⟨N (E wr),1,U⟩) aA).trans y1;have q4:=z.size;have q7:=((cT G).below z).lt;have q5:=cU z;have q6:∀W,Sem.run prog (Instr.field 152 (Wc #[H an,Z Y s,.func (.func F2) #[] #[]]) 1) W=.ok (Z Y s) W:=tr _ _ _;clear z X)
     | (refine CJ (by rfl) _ _ _ (by rfl) _ (tr _ _ _ _) ?_)
     | (have j:=(cT G).below (cT q5);refine step_append_lies _ (by rfl) _ _ _ (by rfl) (N (E r)+1) 104 t2 _ 4 32 underlying78 aC aD aE aF rfl (by omega) sl _ _ (by rfl) (by first | exact(j.o.alloc _).drew | exact j.o.alloc _) ⟨N (E C),0,U⟩ 1 1 [Z Y x0,Wa x1,Z Y 0,Z Y s] (by rfl) (by rfl) (Vv (cs := #[Z Y x0,Wa x1,Z Y 0,Z Y s]) (t:=104) (fr:=(0,0)) (Tk C _)) (by simp[Value.oneCell']) (by omega) (by unfold maxLen;omega) (by omega) (by simp;omega) (N (E C)+1) (by simp) ?_;intro g1 ad w2 q l aS aO;have K:V4 C (C.alloc (D #[Z Y x0,Wa x1,Z Y 0,Z Y s] 104)):=(Th (N (E C)) C).alloc V2 _;have ag:S (N (E r))≠sl.ownBlock:=(λe=>by have:=(j.o.lt _ e.symm).1;omega);have aT:w2.cell? ⟨N (E r),1,U⟩=S sl:=(l.cell_far ⟨N (E r),1,U⟩ (by simp;omega) ag).trans (by first | exact(j.below K).c1 | exact(j.below K.drew).c1);have aU:w2.frozen? ⟨N (E r),1,U⟩=false:=(l.frozen_far ⟨N (E r),1,U⟩ (by simp;omega) ag).trans (by first | exact(j.below K).fz 1 | exact(j.below K.drew).fz 1)))
    all_goals
     have ae:V4 r C:=(cT ak).trans ((cT q5).mono (cT ak).size)
     first
      | (have u:=(j.below K).app l q
         have ao:=py (ae.trans (K.mono ae.size)) (j.below K).lt (j.below K).o l 1 (J (S ⟨g1,0,U⟩) (k+1) ad);rw[<-cT ai] at u;generalize Value.slice (S ⟨g1,0,U⟩) (k+1) ad=y at *;generalize Value.agg #[H an,Z Y s,.func (.func F2) #[] #[]]=u1;generalize Value.slice (S ⟨N (E C),0,U⟩) 1 1=u2;exact⟨O,u1,u2,y,O,u,ao⟩)
      | (have u:=(j.below K.drew).app l q
         have ao:=py (ae.trans (K.drew.mono ae.size)) (j.below K.drew).lt (j.below K.drew).o l 1 (J (S ⟨g1,0,U⟩) (k+1) ad);rw[<-cT ai] at u;generalize Value.slice (S ⟨g1,0,U⟩) (k+1) ad=y at *;generalize Value.agg #[H an,Z Y s,.func (.func F2) #[] #[]]=u1;generalize Value.slice (S ⟨N (E C),0,U⟩) 1 1=u2;exact⟨O,u1,u2,y,O,u,ao⟩)
      |trace_state
   case right =>
   rintro u1 u2 y w4 ⟨aB,aM⟩;rw[<-cT ab] at aB;go_wp2;go_roundw
   case rel=>exact⟨k+1,y,by omega,by go_num,aB,aM⟩
   case measure=>simp[intOf];omega
  .obtain rfl:k=n:=by omega
   have ay:¬(k:Int)<(k:Int):=by omega
   have I:=cT HC;have A:wr.heap[N (E w)+1]?=_:=((cT HB).block _ (by omega)).trans (cT aI);have r0:wr.cell? ⟨N (E w)+1,0,U⟩=S (Z Y 0):=by simp[Wj,A]
   have r1:wr.cell? ⟨N (E w)+1,1,U⟩=S (J U 0 0):=by simp[Wj,A]
   have r2:wr.cell? ⟨N (E w)+1,2,U⟩=S (Z Y 0):=by simp[Wj,A]
   have aV:wr.frozen? ⟨N (E w)+1,0,U⟩=false:=by simp[World.frozen?,A]
   have aW:wr.frozen? ⟨N (E w)+1,1,U⟩=false:=by simp[World.frozen?,A]
   have aX:wr.frozen? ⟨N (E w)+1,2,U⟩=false:=by simp[World.frozen?,A]
   obtain⟨q0,k0,e0,_⟩:=dm I.o;subst e0;have aN:Hid (b (.returned (Wc #[Z Y step,J q0 k k0,Z Y M])) (fM wr (N (E w)+1) (Z Y step) (J q0 k k0) (Z Y M))):=by
    have h1:=fB (pG I.o (R:=N (E w)+1) (by omega) (Z Y step) (J q0 k k0) (Z Y M)) (B:=N (E w)) (by omega);rw[QZ c _ k k V2] at h1
    show b _ _
    rw[<-cT hO];exact⟨mO aa (by omega) _ _ _,_,by rw[cT av],h1⟩
   have x0:=I.c0;have x1:=I.c1;have x2:=I.c2;clear HC HB A I;go_wp2;exact Tj (v := Wc #[Z Y step,J q0 k k0,Z Y M]) (by simp[results,results43,go_sem,r0,r1,r2]) O (cT aN)
end
end Go.Proofs.YtgkkdpegcieakaaGreatDoor
