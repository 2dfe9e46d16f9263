import Derived.Test.YteflnddphpjahaaGreatDoorCmRfCtoRfG
set_option linter.unusedVariables false
set_option linter.unusedSimpArgs false
set_option maxRecDepth 100000
set_option maxHeartbeats 16000000
namespace Go.Proofs.YteflnddphpjahaaGreatDoor
open Go.RowKit
theorem comb_none (nm:_) (x:Int) (f:Value) (w:World):Sem.run Tryz.prog (Instr.field 173 (.agg #[.string nm,.int .i64 x,f]) 1) w = .ok (.int .i64 x) w:=by first | kernel_rfl | rfl | (simp[Instr.field];trace_state;done)
theorem step_field {P:Program} {ops:Array Oper} {o:Oper} {a:Act} {w:World} {K:Act→World→Prop} {Q:Exit→Act→World→Prop} {E:Prop}
  (hg:o.guard=none) (t:TypeId) (x:Operand) (i:Nat) (hop:o.op=Op.field t x i) (v:Value) (hr:Sem.run P (Instr.field t (a.eval x) i) w = .ok v w)
  (h:K (a.put o.dst v) w):if Region.wanted o (yielded ops a.tmps)=true then Oper.wp P o a w K Q else E:=by
 have hw:Region.wanted o (yielded ops a.tmps)=true:=by simp[Region.wanted,hg]
 rw[if_pos hw]
 unfold Oper.wp
 have hrun:(execOp a.eval o).run P w = .ok (.value v) w:=by
  simp[execOp,hop,hr,Result.andThen]
 rw[hrun,Oper.upon_value]
 exact h
theorem wp_join3 {P:Program} {c:Code} {Q:Exit→Act→World→Prop} {a:Act} {w:World} (R:Value→World→Prop) (h:∃ A:Value→Value→Value→Act,c.wp P (noPanR fun x a' w'=>x = .normal∧∃ u1 u2 v,a'=A u1 u2 v∧R v w') a w∧∀ u1 u2 v w',R v w'→Q .normal (A u1 u2 v) w'):c.wp P Q a w:=by
 obtain⟨A,h1,h2⟩:=h
 refine Code.wp_mono (fun e a w h=>?_) h1
 obtain⟨rfl,u1,u2,v,rfl,hr⟩:=noPanR_mono _ _ _ h
 exact h2 _ _ _ _ hr
def pset3 (W:World) (R:Nat) (a b c:Value):World:=((W.setCell ⟨R,0,none⟩ a).setCell ⟨R,1,none⟩ b).setCell ⟨R,2,none⟩ c
theorem below_pset3 {w W:World} {R:Nat} (h:Below w.heap.size w W) (hR:w.heap.size≤R) (a b c:Value):Below w.heap.size w (pset3 W R a b c):=
 ((h.setCell (p:=⟨R,0,none⟩) hR _).setCell (p:=⟨R,1,none⟩) hR _).setCell (p:=⟨R,2,none⟩) hR _
theorem own_pset3 {W:World} {R B t size n:Nat} {v:Value} {xs:List Value} (h:W.ownsRow B t size v n xs) (hR:R < B) (a b c:Value):(pset3 W R a b c).ownsRow B t size v n xs :=
 ownsRow_setCell_below (ownsRow_setCell_below (ownsRow_setCell_below h (a:=⟨R,0,none⟩) hR _) (a:=⟨R,1,none⟩) hR _) (a:=⟨R,2,none⟩) hR _
def UPost (P:Sp.Pg) (step:Int) (c:Sp.Cfg) (n:Nat) (w:World) (e:Ending) (w':World):Prop :=
 Below w.heap.size w w'∧∃ sl,e = .returned (.agg #[.int .i64 step,sl,.int .i64 (Sp.noneK P.al)])∧w'.ownsRow w.heap.size 131 4 sl n (vxC c.val c.rst [] (List.replicate n (Sp.noneK P.by')) n)
def uC (c:Sp.Cfg) (nb:Int) (k:Nat):List Value:=(List.range k).flatMap fun m=>[Value.int .i64 (c.val.getD m 0),.bool (c.rst.getD m false),.int .i64 0,.int .i64 nb]
theorem uC_succ (c:Sp.Cfg) (nb:Int) (k:Nat):uC c nb (k+1)=uC c nb k++[.int .i64 (c.val.getD k 0),.bool (c.rst.getD k false),.int .i64 0,.int .i64 nb]:=by
 unfold uC
 rw[List.range_succ,List.flatMap_append];simp
theorem uC_vx (c:Sp.Cfg) (nb:Int) (n:Nat):∀ k,k≤n→uC c nb k=vxC c.val c.rst [] (List.replicate n nb) k:=by
 intro k
 induction k with
 | zero=>intro _;rfl
 | succ k ih =>
  intro hk
  rw[uC_succ,vxC_succ,ih (by omega)]
  congr 1
  have:(List.replicate n nb).getD k 0=nb:=by rw[List.getD_eq_getElem?_getD,List.getElem?_replicate,if_pos (by omega)];rfl
  rw[this];first | rfl | simp
theorem puntold (B:Nat) (pf:Option Addr) (m kf:Nat) (pe:Option Addr) (ke limit:Nat) (step:Int) (p:Option Addr) (n cap:Nat) (P:Sp.Pg) (c:Sp.Cfg) (w:World) (hp:PrgAt w B P) (hv:VxAt w p c n) (hn:n≤64) :
  Calls Tryz.prog 41 #[.agg (pjobA B pf m kf pe ke limit),.int .i64 step,.slice p n cap] w (UPost P step c n w):=by
 obtain⟨t2,ht2,hva,hvb,hvc⟩:=info_parts Tryz.info_vertex
 generalize hO:UPost P step c n w=O
 replace hO:=hde hO
 have HP:=hde hp
 have HV:=hde hv
 have hBl:=hp.lt
 have HB0:Hid (∀ W,W=(w.alloc (.cells (pjobA B pf m kf pe ke limit) 86)).alloc (.cells #[.int .i64 0,.slice none 0 0,.int .i64 0] 91)→W.heap[w.heap.size]? = some (.cells (pjobA B pf m kf pe ke limit) 86 (0,0))∧W.heap[w.heap.size+1]? = some (.cells #[.int .i64 0,.slice none 0 0,.int .i64 0] 91 (0,0))∧Below w.heap.size w W∧W.heap.size=w.heap.size+1+1):=by
  show ∀ W,_
  rintro W rfl
  have z1:=World.size_alloc w (.cells (pjobA B pf m kf pe ke limit) 86)
  have z2:=World.size_alloc (w.alloc (.cells (pjobA B pf m kf pe ke limit) 86)) (.cells #[.int .i64 0,.slice none 0 0,.int .i64 0] 91)
  have b2:=heap_alloc_new (w.alloc (.cells (pjobA B pf m kf pe ke limit) 86)) (.cells #[.int .i64 0,.slice none 0 0,.int .i64 0] 91)
  rw[z1] at b2
  refine⟨?_,b2,((Below.refl _ w).alloc nlr _).alloc (by rw[z1];omega) _,by omega⟩
  rw[Below.heap_alloc _ _ _ (by rw[z1];omega)]
  exact heap_alloc_new w _
 clear hp hv
 unfold pjobA at *
 go_enter Tryz.func41,Tryz.ntmps41
 go_wp2_with fail
 generalize hW:World.alloc (World.alloc _ _) _=W0
 obtain⟨hbj,hbr,hb0,hz0⟩:=uh HB0 W0 hW.symm
 clear hW HB0
 refine(all_any B P W0 ((uh HP).below hb0)).mono ?_
 rintro e w1 ⟨nm,F,rfl,_,hb1⟩
 have HBJ:Hid (w1.heap[w.heap.size]? = some (.cells (pjobA B pf m kf pe ke limit) 86 (0,0))):=(hb1.block _ (by omega)).trans hbj
 have HBR:Hid (w1.heap[w.heap.size+1]? = some (.cells #[.int .i64 0,.slice none 0 0,.int .i64 0] 91 (0,0))):=(hb1.block _ (by omega)).trans hbr
 have hbw1:Below w.heap.size w w1:=hb0.trans (hb1.mono (by omega))
 have hz1:w.heap.size+1 < w1.heap.size:=by have:=hb1.size;omega
 obtain⟨na,HNA⟩:∃ na,Hid (Sp.noneK P.al=na):=⟨_,rfl⟩
 rw[uh HNA]
 have HC0:Hid (PCW (w1.alloc (.cells #[.int .i64 step,.slice none 0 0,.int .i64 na] 91)) w1.heap.size step (.slice none 0 0) na 0 (uC c (Sp.noneK P.by') 0)):=PCW.new (heap_alloc_new w1 _)
 have HW1:Hid (Below w1.heap.size w1 (w1.alloc (.cells #[.int .i64 step,.slice none 0 0,.int .i64 na] 91))):=(Below.refl _ _).alloc nlr _
 clear hbj hbr hb0 hz0 hb1
 go_wp2_with fail
 rw[comb_none]
 go_wp2_with fail
 go_loopw [18] (fun i wr=>∃ (k:Nat) (sl:Value),k≤n∧i = .int .i64 k∧Hid (PCW wr w1.heap.size step sl na k (uC c (Sp.noneK P.by') k))∧Hid (Below w1.heap.size w1 wr)) (fun i _=>n - (intOf i).toNat)
 case atStart=>exact⟨0,_,Nat.zero_le _,rfl,HC0,HW1⟩
 case round =>
  clear HC0 HW1
  obtain⟨k,sl,hk,rfl,HC,HB⟩:=hrel
  have hbw:Below w.heap.size w wr:=hbw1.trans ((uh HB).mono hbw1.size)
  by_cases hlt:k < n
  ·have hltz:(k:Int) < (n:Int):=by omega
   have g0:(0:Int)≤(k:Int):=Int.natCast_nonneg _
   obtain⟨g,rfl,hg,d0,d1,d2,d3⟩:=((uh HV).below hbw) k hlt
   have HUS:=hde (uC_succ c (Sp.noneK P.by') k)
   generalize c.val.getD k 0=x0 at *
   generalize c.rst.getD k false=x1 at *
   generalize c.got.getD k 0=x2 at *
   generalize c.inn.getD k 0=x3 at *
   obtain⟨nb,HNB⟩:∃ nb,Hid (Sp.noneK P.by'=nb):=⟨_,rfl⟩
   go_upto_region 5 with fail
   generalize hV1:World.alloc _ _=V1
   have hbV:Below wr.heap.size wr V1:=by rw[← hV1];exact(Below.refl _ _).alloc nlr _
   have hvb1:V1.heap[wr.heap.size]? = some (.cells #[.int .i64 x0,.bool x1,.int .i64 x2,.int .i64 x3] 131 (0,0)):=by rw[← hV1];exact heap_alloc_new wr _
   clear hV1 d0 d1 d2 d3
   have HCV:=hde ((uh HC).below hbV)
   rw[uh HNB] at HCV
   have HBV:=hde ((uh HB).trans (hbV.mono (uh HB).size))
   have y0:V1.cell? ⟨wr.heap.size,0,none⟩=some (.int .i64 x0):=by simp[World.cell?,hvb1]
   have y1:V1.cell? ⟨wr.heap.size,1,none⟩=some (.bool x1):=by simp[World.cell?,hvb1]
   have hJb:=((uh HBV).block w.heap.size (by omega)).trans (uh HBJ)
   have j0:V1.cell? ⟨w.heap.size,0,none⟩=some (.pointer (some ⟨B,0,none⟩)):=by simp[World.cell?,hJb,pjobA]
   have c1:=(uh HCV).c1
   have HBC:Hid (∀ W,Below V1.heap.size V1 W→Calls Tryz.prog 75 #[.pointer (some ⟨B,0,none⟩)] W (CombPost P.by' W)):=by
    show ∀ W,_
    intro W hW
    exact by_any B P W ((uh HP).below (hbw.trans ((hbV.trans (hW.mono hbV.size)).mono hbw.size)))
   have HEN:Hid (∀ (args:Array Value) (w:World),(callFunc 75 args).run Tryz.prog w = .ok (.enter 75 args) w):=cfe Tryz.func75 (by kernel_rfl) (by kernel_rfl)
   have hvl:wr.heap.size < V1.heap.size:=World.block_lt_of_cell? V1 _ y0
   have hcl:=(uh HCV).lt
   rw[uh HNB] at HUS
   clear hJb hvb1 hbV hg
   apply wp_join3 (fun sl' w'=>Hid (PCW w' w1.heap.size step sl' na (k+1) (uC c nb (k+1)))∧Hid (Below w1.heap.size w1 w'))
   apply Exists.intro
   apply And.intro
   case left =>
    go_region_law (first
     | (refine step_call (by rfl) _ _ _ (by rfl) 75 (by rfl) _ (by rfl) (uh HEN) (uh HBC _ (by first | exact Below.refl _ _ | exact(Below.refl _ _).drew)) ?_;rintro e wq ⟨nm2,F2,he,_,hbq0⟩;rw[uh HNB] at he;obtain rfl:=he.symm;dsimp only;have hbq:Below V1.heap.size V1 wq:=(by first | exact hbq0 | exact(Below.refl _ _).drew.trans (hbq0.mono nlr));have q1:=((uh HCV).below hbq).c1;have q2:wq.cell? ⟨wr.heap.size,0,none⟩=some (.int .i64 x0):=(hbq.cell (p:=⟨wr.heap.size,0,none⟩) hvl).trans y0;have q3:wq.cell? ⟨wr.heap.size,1,none⟩=some (.bool x1):=(hbq.cell (p:=⟨wr.heap.size,1,none⟩) hvl).trans y1;have q4:=hbq.size;have q7:=((uh HCV).below hbq).lt;have q5:=hde hbq;have q6:∀ W,Sem.run Tryz.prog (Instr.field 173 (.agg #[.string nm2,.int .i64 nb,.func (.func F2) #[] #[]]) 1) W = .ok (.int .i64 nb) W:=comb_none _ _ _;clear hbq hbq0)
     | (refine step_field (by rfl) _ _ _ (by rfl) _ (comb_none _ _ _ _) ?_)
     | (have hcq:=(uh HCV).below (uh q5);refine step_append_lies _ (by rfl) _ _ _ (by rfl) (w1.heap.size+1) 131 t2 _ 4 32 Tryz.underlying89 ht2 hva hvb hvc rfl (by omega) sl _ _ (by rfl) (by first | exact(hcq.o.alloc _).drew | exact hcq.o.alloc _) ⟨wq.heap.size,0,none⟩ 1 1 [.int .i64 x0,.bool x1,.int .i64 0,.int .i64 nb] (by rfl) (by rfl) (World.news_of_block (cs := #[.int .i64 x0,.bool x1,.int .i64 0,.int .i64 nb]) (t:=131) (fr:=(0,0)) (heap_alloc_new wq _)) (by simp[Value.oneCell']) (by omega) (by unfold maxLen;omega) (by omega) (by simp;omega) (wq.heap.size+1) (by simp) ?_;intro g1 cp1 w2 hown1 hgrow hat hlt1;have hA:Below wq.heap.size wq (wq.alloc (.cells #[.int .i64 x0,.bool x1,.int .i64 0,.int .i64 nb] 131)):=(Below.refl wq.heap.size wq).alloc nlr _;have hne0:some w1.heap.size≠sl.ownBlock:=(fun e=>by have:=(hcq.o.lt _ e.symm).1;omega);have hq0:w2.cell? ⟨w1.heap.size,1,none⟩=some sl:=(hgrow.cell_far ⟨w1.heap.size,1,none⟩ (by simp;omega) hne0).trans (by first | exact(hcq.below hA).c1 | exact(hcq.below hA.drew).c1);have hq1:w2.frozen? ⟨w1.heap.size,1,none⟩=false:=(hgrow.frozen_far ⟨w1.heap.size,1,none⟩ (by simp;omega) hne0).trans (by first | exact(hcq.below hA).fz 1 | exact(hcq.below hA.drew).fz 1)))
    all_goals
     have hbB:Below w1.heap.size w1 wq:=(uh HBV).trans ((uh q5).mono (uh HBV).size)
     first
      | (have hcw2:=(hcq.below hA).app hgrow hown1
         have hb2:=below_app (hbB.trans (hA.mono hbB.size)) (hcq.below hA).lt (hcq.below hA).o hgrow 1 (.slice (some ⟨g1,0,none⟩) (k+1) cp1)
         rw[← uh HUS] at hcw2
         generalize Value.slice (some ⟨g1,0,none⟩) (k+1) cp1=sl' at *
         generalize Value.agg #[.string nm2,.int .i64 nb,.func (.func F2) #[] #[]]=u1
         generalize Value.slice (some ⟨wq.heap.size,0,none⟩) 1 1=u2
         exact⟨rfl,u1,u2,sl',rfl,hcw2,hb2⟩)
      | (have hcw2:=(hcq.below hA.drew).app hgrow hown1
         have hb2:=below_app (hbB.trans (hA.drew.mono hbB.size)) (hcq.below hA.drew).lt (hcq.below hA.drew).o hgrow 1 (.slice (some ⟨g1,0,none⟩) (k+1) cp1)
         rw[← uh HUS] at hcw2
         generalize Value.slice (some ⟨g1,0,none⟩) (k+1) cp1=sl' at *
         generalize Value.agg #[.string nm2,.int .i64 nb,.func (.func F2) #[] #[]]=u1
         generalize Value.slice (some ⟨wq.heap.size,0,none⟩) 1 1=u2
         exact⟨rfl,u1,u2,sl',rfl,hcw2,hb2⟩)
      | trace_state
   case right =>
   rintro u1 u2 sl' w4 ⟨HC4,HB4⟩
   rw[← uh HNB] at HC4
   go_wp2
   go_roundw
   case rel=>exact⟨k+1,sl',by omega,by go_num,HC4,HB4⟩
   case measure=>simp[intOf];omega
  ·obtain rfl:k=n:=by omega
   have hltz:¬ (k:Int) < (k:Int):=by omega
   have hcw:=uh HC
   have hrb:wr.heap[w.heap.size+1]? = _:=((uh HB).block _ (by omega)).trans (uh HBR)
   have r0:wr.cell? ⟨w.heap.size+1,0,none⟩=some (.int .i64 0):=by simp[World.cell?,hrb]
   have r1:wr.cell? ⟨w.heap.size+1,1,none⟩=some (.slice none 0 0):=by simp[World.cell?,hrb]
   have r2:wr.cell? ⟨w.heap.size+1,2,none⟩=some (.int .i64 0):=by simp[World.cell?,hrb]
   have rf0:wr.frozen? ⟨w.heap.size+1,0,none⟩=false:=by simp[World.frozen?,hrb]
   have rf1:wr.frozen? ⟨w.heap.size+1,1,none⟩=false:=by simp[World.frozen?,hrb]
   have rf2:wr.frozen? ⟨w.heap.size+1,2,none⟩=false:=by simp[World.frozen?,hrb]
   obtain⟨q0,k0,e0,_⟩:=osl hcw.o
   subst e0
   have HFN:Hid (O (.returned (.agg #[.int .i64 step,.slice q0 k k0,.int .i64 na])) (pset3 wr (w.heap.size+1) (.int .i64 step) (.slice q0 k k0) (.int .i64 na))):=by
    have h1:=own_low (own_pset3 hcw.o (R:=w.heap.size+1) (by omega) (.int .i64 step) (.slice q0 k k0) (.int .i64 na)) (B:=w.heap.size) (by omega)
    rw[uC_vx c _ k k nlr] at h1
    show O _ _
    rw[← uh hO]
    exact⟨below_pset3 hbw (by omega) _ _ _,_,by rw[uh HNA],h1⟩
   have x0:=hcw.c0
   have x1:=hcw.c1
   have x2:=hcw.c2
   clear HC HB hrb hcw
   go_wp2
   exact bodyPost_ret (v := .agg #[.int .i64 step,.slice q0 k k0,.int .i64 na]) (by simp[results,Tryz.results41,go_sem,r0,r1,r2]) rfl (uh HFN)
end Go.Proofs.YteflnddphpjahaaGreatDoor
