import Derived.Test.YteflnddphpjahaaGreatDoorCmRfCtoRfG
set_option linter.unusedVariables false
set_option linter.unusedSimpArgs false
set_option maxRecDepth 100000
set_option maxHeartbeats 16000000
namespace Go.Proofs.YteflnddphpjahaaGreatDoor
open Go.RowKit
theorem comb_fn (nm:_) (x:Int) (f:Value) (w:World):Sem.run Tryz.prog (Instr.field 173 (.agg #[.string nm,.int .i64 x,f]) 2) w = .ok f w:=by first | kernel_rfl | rfl
theorem step_fieldB {P:Program} {ops:Array Oper} {o:Oper} {a:Act} {w:World} {K:Act→World→Prop} {Q:Exit→Act→World→Prop} {E:Prop}
  (hg:o.guard=none) (t:TypeId) (x:Operand) (i:Nat) (hop:o.op=Op.field t x i) (v:Value) (hr:Sem.run P (Instr.field t (a.eval x) i) w = .ok v w)
  (h:K (a.put o.dst v) w):if Region.wanted o (yielded ops a.tmps)=true then Oper.wp P o a w K Q else E:=by
 have hw:Region.wanted o (yielded ops a.tmps)=true:=by simp[Region.wanted,hg]
 rw[if_pos hw]
 unfold Oper.wp
 have hrun:(execOp a.eval o).run P w = .ok (.value v) w:=by
  simp[execOp,hop,hr,Result.andThen]
 rw[hrun,Oper.upon_value]
 exact h
theorem wp_join2 {P:Program} {c:Code} {Q:Exit→Act→World→Prop} {a:Act} {w:World} (R:World→Prop) (h:∃ A:Value→Value→Act,c.wp P (noPanR fun x a' w'=>x = .normal∧∃ u1 u2,a'=A u1 u2∧R w') a w∧∀ u1 u2 w',R w'→Q .normal (A u1 u2) w'):c.wp P Q a w:=by
 obtain⟨A,h1,h2⟩:=h
 refine Code.wp_mono (fun e a w h=>?_) h1
 obtain⟨rfl,u1,u2,rfl,hr⟩:=noPanR_mono _ _ _ h
 exact h2 _ _ _ hr
theorem PCS.drew {w:World} {C B g cap n:Nat} {step all:Int} {V:List Int} {R:List Bool} {G I:List Int} (h:PCS w C B g cap n step all V R G I):PCS w.drew C B g cap n step all V R G I:=h.below (Below.refl _ _).drew
theorem Save2.drew {C g:Nat} {a b:World} (h:Save2 C g a b):Save2 C g a b.drew:=h.trans (Save2.of_below (Below.refl _ _).drew)
theorem map_got_set {s:List (Nat × Int)} {n:Nat} {m:Nat × Int} (hm:m.1 < n):((List.range n).map (Sp.gotOf s)).set m.1 (Sp.gotOf s m.1+1)=(List.range n).map (Sp.gotOf (s++[m])):=by
 rw[Sp.map_range_set]
 apply Sp.map_range_congr
 intro q _
 rw[Sp.gotOf_snoc]
 by_cases c:q=m.1
 ·subst c;simp
 ·rw[if_neg c,if_neg (Ne.symm c)]
theorem map_inn_set {P:Sp.Pg} {s:List (Nat × Int)} {n:Nat} {m:Nat × Int} (hm:m.1 < n):((List.range n).map (Sp.innOf P s)).set m.1 (Sp.joinK P.by' (Sp.innOf P s m.1) m.2)=(List.range n).map (Sp.innOf P (s++[m])):=by
 rw[Sp.map_range_set]
 apply Sp.map_range_congr
 intro q _
 rw[Sp.innOf_snoc]
 by_cases c:q=m.1
 ·subst c;simp
 ·rw[if_neg c,if_neg (Ne.symm c)]
def PAPost (P:Sp.Pg) (C L g cap n:Nat) (step all:Int) (V:List Int) (R:List Bool) (s0:List (Nat × Int)) (t:Sp.Tn) (id:Nat) (w:World) (e:Ending) (w':World):Prop :=
 e = .returned (.tuple #[])∧Save2 C g w w'∧PCS w' C L g cap n step (Sp.joinK P.al all t.give) (V.set id t.value) (R.set id t.rests) ((List.range n).map (Sp.gotOf (s0++t.sent))) ((List.range n).map (Sp.innOf P (s0++t.sent)))
theorem papply (B:Nat) (pf:Option Addr) (n kf:Nat) (pe:Option Addr) (ke limit:Nat) (P:Sp.Pg) (Es:List Sp.Ed) (t:Sp.Tn) (id:Nat) (vm:Value) (C L g cap M:Nat) (step all:Int) (V:List Int) (R:List Bool) (s0:List (Nat × Int)) (w0 w:World)
  (hp:PrgAt w0 B P) (he:EbR w0 pe n Es) (hb:Below w0.heap.size w0 w) (hid:id < n) (hn:n≤64) (hc:PCS w C L g cap n step all V R ((List.range n).map (Sp.gotOf s0)) ((List.range n).map (Sp.innOf P s0))) (hLC:w0.heap.size≤C) (hLL:w0.heap.size≤L)
  (hV:V.length=n) (hR:R.length=n) (hs0:s0.length≤100000) (hm:w.ownsRow M 2 1 vm t.sent.length (t.sent.map fun m=>Value.int .i64 m.2)) (hMC:C < M) (hMg:g < M) (hto:t.sent≠[]→t.sent.map Prod.fst=(Sp.outE Es id).map (·.to)) (ht:Sp.TnOk n t) (hel:(Sp.outE Es id).length≤1000) :
  Calls Tryz.prog 73 #[.agg (pjobA B pf n kf pe ke limit),.agg #[.int .i64 t.value,vm,.bool t.rests,.int .i64 t.give],.int .i64 id,.pointer (some ⟨C,0,none⟩)] w (PAPost P C L g cap n step all V R s0 t id w):=by
 generalize hO:PAPost P C L g cap n step all V R s0 t id w=O
 replace hO:=hde hO
 have HP:=hde hp
 have HE:=hde he
 have HTO:=hde hto
 have HT:=hde ht
 have hts:=ht.l
 obtain⟨pm,km,rfl,hmc⟩:=osl hm
 have HMC:=hde hmc
 have hml:∀ q,pm=some q→M≤q.block∧q.block < w.heap.size:=by
  rintro q rfl
  rcases hm.2 with ⟨e,_⟩ | ⟨g',cap',cur,e,h1,h2,_⟩
  ·cases e
  ·injection e with e _ _
   injection e with e
   subst e
   exact⟨h1,(Array.getElem?_eq_some_iff.1 h2).1⟩
 have HML:=hde hml
 have HB0:=hde (two_new w (pjobA B pf n kf pe ke limit) #[.int .i64 t.value,.slice pm t.sent.length km,.bool t.rests,.int .i64 t.give] 86 186)
 have HCW:=hde hc
 have hCl:=hc.lt
 have hgl:=hc.ltg
 have hCg:=hc.ne
 have HBW:=hde hb
 have g0:(0:Int)≤(id:Int):=Int.natCast_nonneg _
 have g1:(id:Int) < (n:Int):=by omega
 obtain⟨m,HM⟩:∃ m,Hid (t.sent.length=m):=⟨_,rfl⟩
 rw[uh HM] at HB0 hts ⊢
 clear hp he hto ht hm hmc hml hc hb
 unfold pjobA at *
 go_enter Tryz.func73,Tryz.ntmps73
 go_upto_region 1 with fail
 generalize hW:World.alloc (World.alloc _ _) _=W0
 obtain⟨hbj,hbt,hb0,hz0⟩:=uh HB0 W0 hW.symm
 have HBJ:=hde hbj
 have HBT:=hde hbt
 clear hW HB0
 have HC0:=hde ((uh HCW).below hb0)
 have c1:=(uh HC0).c1
 have d0:=((uh HC0).cells hid).1
 have f0:=(uh HC0).fzg (id * 4)
 have t0:W0.cell? ⟨w.heap.size+1,0,none⟩=some (.int .i64 t.value):=by simp[World.cell?,hbt]
 clear hbj hbt
 apply wp_join (fun w'=>Hid (PCS w' C L g cap n step all (V.set id t.value) R ((List.range n).map (Sp.gotOf s0)) ((List.range n).map (Sp.innOf P s0)))∧Hid (Save2 C g W0 w'))
 apply Exists.intro
 apply And.intro
 case left =>
  go_region_law fail
  all_goals first
   | exact⟨rfl,rfl,(uh HC0).store (vxC_set0 hid (by omega) _),(Save2.refl C g W0).set (Or.inr rfl) _⟩
   | exact⟨rfl,rfl,(uh HC0).drew.store (vxC_set0 hid (by omega) _),(Save2.refl C g W0).drew.set (Or.inr rfl) _⟩
   | trace_state
 case right =>
 rintro w1 ⟨HC1,HS1⟩
 clear c1 d0 f0 t0 HC0 HCW
 have c1:=(uh HC1).c1
 have d1:=((uh HC1).cells hid).2.1
 have f1:=(uh HC1).fzg (id * 4+1)
 have hTb:∀ wq,Save2 C g W0 wq→wq.heap[w.heap.size+1]? = some (.cells #[.int .i64 t.value,.slice pm m km,.bool t.rests,.int .i64 t.give] 186 (0,0)):=fun wq hq=>(hq.block _ (by omega) (by omega) (by omega)).trans (uh HBT)
 have hJb:∀ wq,Save2 C g W0 wq→wq.heap[w.heap.size]? = some (.cells #[.pointer (some ⟨B,0,none⟩),.slice pf n kf,.slice pe n ke,.int .i64 limit] 86 (0,0)):=fun wq hq=>(hq.block _ (by omega) (by omega) (by omega)).trans (uh HBJ)
 have HTB:=hde hTb
 have HJB:=hde hJb
 have t2:w1.cell? ⟨w.heap.size+1,2,none⟩=some (.bool t.rests):=by simp[World.cell?,hTb w1 (uh HS1)]
 clear hTb hJb
 go_upto_region 2 with fail
 apply wp_join (fun w'=>Hid (PCS w' C L g cap n step all (V.set id t.value) (R.set id t.rests) ((List.range n).map (Sp.gotOf s0)) ((List.range n).map (Sp.innOf P s0)))∧Hid (Save2 C g W0 w'))
 apply Exists.intro
 apply And.intro
 case left =>
  go_region_law fail
  all_goals first
   | exact⟨rfl,rfl,(uh HC1).store (vxC_set1 hid (by omega) _),(uh HS1).set (Or.inr rfl) _⟩
   | exact⟨rfl,rfl,(uh HC1).drew.store (vxC_set1 hid (by omega) _),(uh HS1).drew.set (Or.inr rfl) _⟩
   | trace_state
 case right =>
 rintro w2 ⟨HC2,HS2⟩
 clear c1 d1 f1 t2 HC1 HS1
 have t1:w2.cell? ⟨w.heap.size+1,1,none⟩=some (.slice pm m km):=by simp[World.cell?,uh HTB w2 (uh HS2)]
 have HI0:Hid (PCS w2 C L g cap n step all (V.set id t.value) (R.set id t.rests) ((List.range n).map (Sp.gotOf (s0++t.sent.take 0))) ((List.range n).map (Sp.innOf P (s0++t.sent.take 0)))):=by
  show PCS _ _ _ _ _ _ _ _ _ _ _ _
  rw[List.take_zero,List.append_nil]
  exact uh HC2
 clear HC2
 go_wp2_with fail
 go_loopw [32] (fun i wr=>∃ k:Nat,k≤m∧i = .int .i64 k∧Hid (PCS wr C L g cap n step all (V.set id t.value) (R.set id t.rests) ((List.range n).map (Sp.gotOf (s0++t.sent.take k))) ((List.range n).map (Sp.innOf P (s0++t.sent.take k))))∧Hid (Save2 C g W0 wr)) (fun i _=>m - (intOf i).toNat)
 case atStart=>exact⟨0,Nat.zero_le _,rfl,HI0,HS2⟩
 case round =>
  clear HI0 HS2 t1
  obtain⟨k,hk,rfl,HC,HS⟩:=hrel
  have hbW:Below w0.heap.size w0 wr:=((uh HBW).trans (hb0.mono (uh HBW).size)).trans ((uh HS).below hLC (by omega) (by have:=(uh HBW).size;omega))
  have j0:wr.cell? ⟨w.heap.size,0,none⟩=some (.pointer (some ⟨B,0,none⟩)):=by simp[World.cell?,uh HJB wr (uh HS)]
  by_cases hlt:k < m
  ·have hltz:(k:Int) < (m:Int):=by omega
   have k0:(0:Int)≤(k:Int):=Int.natCast_nonneg _
   have hks:k < t.sent.length:=by rw[uh HM];exact hlt
   have hne:t.sent≠[]:=fun e=>by rw[e] at hks;simp at hks
   have htoe:=uh HTO hne
   have hel2:(Sp.outE Es id).length=t.sent.length:=by have:=congrArg List.length htoe;simpa using this.symm
   have hke:k < (Sp.outE Es id).length:=by omega
   have hto1:(Sp.outE Es id)[k].to=t.sent[k].1:=by
    have h:=congrArg (fun l=>l[k]?) htoe
    simp only[List.getElem?_map,List.getElem?_eq_getElem hks,List.getElem?_eq_getElem hke,Option.map_some] at h
    injection h with h
    exact h.symm
   have hton:t.sent[k].1 < n:=((uh HT).s _ (List.getElem_mem hks)).1
   obtain⟨gm,hpm,hgm1,hgm2,mc⟩:=uh HMC k (by omega)
   have hml:=uh HML _ hpm
   have mc2:wr.cell? ⟨gm,k,none⟩=some (.int .i64 t.sent[k].2):=by
    rw[(uh HS).cell (q:=gm) (by have:=hb0.size;omega) (by simp at hml;omega) (by simp at hml;omega),hb0.cell (p:=⟨gm,k,none⟩) hgm2,mc]
    simp[hks]
   obtain⟨D,pp,ce,hpe,hD,dc,hea⟩:=((uh HE).below hbW) id hid
   obtain⟨ge,hpp,hge,_,ec,_⟩:=hea k hke
   rw[hto1] at ec
   have HTK:Hid (t.sent.take (k+1)=t.sent.take k++[t.sent[k]]):=List.take_succ_eq_append_getElem hks
   have HCO:=hde (uh HC).o
   have j2:wr.cell? ⟨w.heap.size,2,none⟩=some (.slice (some ⟨D,0,none⟩) n ke):=by rw[← hpe];simp[World.cell?,uh HJB wr (uh HS)]
   obtain⟨le,hle⟩:∃ le,(Sp.outE Es id).length=le:=⟨_,rfl⟩
   rw[hle] at dc hke hel
   rw[hpp] at dc
   subst hpm
   have hgml:gm < wr.heap.size:=by have:=hb0.size;have:=(uh HS).size;simp at hml;omega
   have c1:=(uh HC).c1
   have kz:(k:Int) < (le:Int):=by omega
   obtain⟨mg,hmg⟩:∃ mg,t.sent[k]=mg:=⟨_,rfl⟩
   rw[hmg] at mc2 ec hton HTK
   have HMG:=hde hmg
   clear hmg htoe hel2 hto1 hpe hpp hea hml mc hgm1 hgm2 hle
   have hmz:(mg.1:Int) < (n:Int):=by omega
   have mg0:(0:Int)≤(mg.1:Int):=Int.natCast_nonneg _
   go_upto_region 6 with fail
   go_quiet (fail)
   generalize hW6:World.drewN wr _=W6
   have hbD:Below wr.heap.size wr W6:=by rw[← hW6];exact below_drewN _ _
   have HC6:=hde ((uh HC).below hbD)
   have HS6:=hde ((uh HS).trans (Save2.of_below hbD))
   have hbW6:Below w0.heap.size w0 W6:=hbW.trans (hbD.mono hbW.size)
   clear hW6 hbD c1 j0 j2 mc2 dc ec HC HS hbW hgml HCO
   have y2:=((uh HC6).cells hton).2.2.1
   have f2:=(uh HC6).fzg (mg.1 * 4+2)
   rw[Sp.getD_map_range _ hton] at y2
   have hgb:=Sp.gotOf_ok (s0++t.sent.take k) mg.1
   have hgl2:(s0++t.sent.take k).length≤200000:=by rw[List.length_append,List.length_take];omega
   have HGS:=hde (map_got_set (s:=s0++t.sent.take k) (n:=n) hton)
   have HIS:=hde (map_inn_set (P:=P) (s:=s0++t.sent.take k) (n:=n) hton)
   rw[List.append_assoc,← uh HTK] at HGS HIS
   generalize Sp.gotOf (s0++t.sent.take k) mg.1=x at *
   have hwx:IntKind.i64.wrap (x+1)=x+1:=by rw[IntKind.wrap_i64];omega
   clear hgb hgl2
   go_upto_region 8 with fail
   have HC7:=hde ((uh HC6).store (vxC_set2 hton (by simp;exact hton) (x+1)))
   have HS7:=hde ((uh HS6).set (q:=g) (j:=mg.1 * 4+2) (Or.inr rfl) (.int .i64 (x+1)))
   have hbW7:=hbW6.setCell (p:=⟨g,mg.1 * 4+2,none⟩) (show w0.heap.size≤g by omega) (.int .i64 (x+1))
   rw[uh HGS] at HC7
   clear y2 f2 hwx HC6 HS6 hbW6
   generalize World.setCell _ _ _=W7 at HC7 HS7 hbW7 ⊢
   have y3:=((uh HC7).cells hton).2.2.2
   rw[Sp.getD_map_range _ hton] at y3
   have f3:=(uh HC7).fzg (mg.1 * 4+3)
   have j0:W7.cell? ⟨w.heap.size,0,none⟩=some (.pointer (some ⟨B,0,none⟩)):=by simp[World.cell?,uh HJB W7 (uh HS7)]
   have hg7:=(uh HC7).ltg
   obtain⟨jb,HJ⟩:∃ jb,Hid (Sp.joinK P.by' (Sp.innOf P (s0++t.sent.take k) mg.1) mg.2=jb):=⟨_,rfl⟩
   rw[uh HJ] at HIS
   generalize Sp.innOf P (s0++t.sent.take k) mg.1=z at *
   obtain⟨nb,HNB⟩:∃ nb,Hid (Sp.noneK P.by'=nb):=⟨_,rfl⟩
   have HBC:Hid (∀ W,Below W7.heap.size W7 W→Calls Tryz.prog 75 #[.pointer (some ⟨B,0,none⟩)] W (CombPost P.by' W)):=by
    show ∀ W,_
    intro W hW
    exact by_any B P W ((uh HP).below (hbW7.trans (hW.mono hbW7.size)))
   have HEN:Hid (∀ (args:Array Value) (w:World),(callFunc 75 args).run Tryz.prog w = .ok (.enter 75 args) w):=cfe Tryz.func75 (by kernel_rfl) (by kernel_rfl)
   apply wp_join2 (fun w'=>Hid (PCS w' C L g cap n step all (V.set id t.value) (R.set id t.rests) ((List.range n).map (Sp.gotOf (s0++t.sent.take (k+1)))) ((List.range n).map (Sp.innOf P (s0++t.sent.take (k+1)))))∧Hid (Save2 C g W0 w'))
   apply Exists.intro
   apply And.intro
   case left =>
    go_region_law (first
     | (refine step_call (by rfl) _ _ _ (by rfl) 75 (by rfl) _ (by rfl) (uh HEN) (uh HBC _ (by first | exact Below.refl _ _ | exact(Below.refl _ _).drew)) ?_;rintro e wq ⟨nm2,F2,he,hjn,hbq0⟩;rw[uh HNB] at he;obtain rfl:=he.symm;dsimp only;have hbq:Below W7.heap.size W7 wq:=(by first | exact hbq0 | exact(Below.refl _ _).drew.trans (hbq0.mono nlr));have q1:=(hbq.cell (p:=⟨g,mg.1 * 4+3,none⟩) hg7.2).trans y3;have q2:=(hbq.frozen (p:=⟨g,mg.1 * 4+3,none⟩) hg7.2).trans f3;have HJN:=hde hjn;have q5:=hde hbq;have q6:∀ W,Sem.run Tryz.prog (Instr.field 173 (.agg #[.string nm2,.int .i64 nb,.func (.func F2) #[] #[]]) 2) W = .ok (.func (.func F2) #[] #[]) W:=comb_fn _ _ _;clear hbq hbq0 hjn)
     | (refine step_fieldB (by rfl) _ _ _ (by rfl) _ (comb_fn _ _ _ _) ?_)
     | (refine step_call (by rfl) _ _ _ (by rfl) F2 (by rfl) #[.int .i64 z,.int .i64 mg.2] (by rfl) (uh HJN).enter ((uh HJN).calls z mg.2 _) ?_;rintro e wq2 ⟨he2,hwq2⟩;rw[uh HJ] at he2;obtain rfl:=he2.symm;obtain rfl:=hwq2.symm;dsimp only))
    all_goals
     generalize Value.agg #[.string nm2,.int .i64 nb,.func (.func F2) #[] #[]]=u1
     generalize Value.func (.func F2) #[] #[]=u2
     first
      | exact⟨rfl,u1,u2,rfl,by show PCS _ _ _ _ _ _ _ _ _ _ _ _;rw[← uh HIS];exact((uh HC7).below (uh q5)).store (vxC_set3 hton (by simp;exact hton) jb),((uh HS7).trans (Save2.of_below (uh q5))).set (Or.inr rfl) _⟩
      | exact⟨rfl,u1,u2,rfl,by show PCS _ _ _ _ _ _ _ _ _ _ _ _;rw[← uh HIS];exact(((uh HC7).below (uh q5)).store (vxC_set3 hton (by simp;exact hton) jb)).drew,(((uh HS7).trans (Save2.of_below (uh q5))).set (Or.inr rfl) _).drew⟩
      | trace_state
   case right =>
   rintro u1 u2 w8 ⟨HC8,HS8⟩
   go_wp2
   go_roundw
   case rel=>exact⟨k+1,by omega,by go_num,HC8,HS8⟩
   case measure=>simp[intOf];omega
  ·have hltz:¬ (k:Int) < (m:Int):=by omega
   have hkm:k=t.sent.length:=by rw[uh HM];omega
   rw[hkm,List.take_length] at HC
   have c2:=(uh HC).c2
   have f2:=(uh HC).fz 2
   have hCl2:=(uh HC).lt
   have t3:wr.cell? ⟨w.heap.size+1,3,none⟩=some (.int .i64 t.give):=by simp[World.cell?,uh HTB wr (uh HS)]
   have hTl:w.heap.size+1 < wr.heap.size:=by have:=(uh HS).size;omega
   obtain⟨jb,HJ⟩:∃ jb,Hid (Sp.joinK P.al all t.give=jb):=⟨_,rfl⟩
   obtain⟨nb,HNB⟩:∃ nb,Hid (Sp.noneK P.al=nb):=⟨_,rfl⟩
   have HBC:Hid (∀ W,Below wr.heap.size wr W→Calls Tryz.prog 74 #[.pointer (some ⟨B,0,none⟩)] W (CombPost P.al W)):=by
    show ∀ W,_
    intro W hW
    exact all_any B P W ((uh HP).below (hbW.trans (hW.mono hbW.size)))
   have HEN:Hid (∀ (args:Array Value) (w:World),(callFunc 74 args).run Tryz.prog w = .ok (.enter 74 args) w):=cfe Tryz.func74 (by kernel_rfl) (by kernel_rfl)
   go_upto_region 10 with fail
   apply wp_join2 (fun w'=>Hid (PCS w' C L g cap n step jb (V.set id t.value) (R.set id t.rests) ((List.range n).map (Sp.gotOf (s0++t.sent))) ((List.range n).map (Sp.innOf P (s0++t.sent))))∧Hid (Save2 C g W0 w'))
   apply Exists.intro
   apply And.intro
   case left =>
    go_region_law (first
     | (refine step_call (by rfl) _ _ _ (by rfl) 74 (by rfl) _ (by rfl) (uh HEN) (uh HBC _ (by first | exact Below.refl _ _ | exact(Below.refl _ _).drew)) ?_;rintro e wq ⟨nm2,F2,he,hjn,hbq0⟩;rw[uh HNB] at he;obtain rfl:=he.symm;dsimp only;have hbq:Below wr.heap.size wr wq:=(by first | exact hbq0 | exact(Below.refl _ _).drew.trans (hbq0.mono nlr));have q1:=(hbq.cell (p:=⟨C,2,none⟩) hCl2).trans c2;have q2:=(hbq.frozen (p:=⟨C,2,none⟩) hCl2).trans f2;have q3:=(hbq.cell (p:=⟨w.heap.size+1,3,none⟩) hTl).trans t3;have HJN:=hde hjn;have q5:=hde hbq;have q6:∀ W,Sem.run Tryz.prog (Instr.field 173 (.agg #[.string nm2,.int .i64 nb,.func (.func F2) #[] #[]]) 2) W = .ok (.func (.func F2) #[] #[]) W:=comb_fn _ _ _;clear hbq hbq0 hjn)
     | (refine step_fieldB (by rfl) _ _ _ (by rfl) _ (comb_fn _ _ _ _) ?_)
     | (refine step_call (by rfl) _ _ _ (by rfl) F2 (by rfl) #[.int .i64 all,.int .i64 t.give] (by rfl) (uh HJN).enter ((uh HJN).calls all t.give _) ?_;rintro e wq2 ⟨he2,hwq2⟩;rw[uh HJ] at he2;obtain rfl:=he2.symm;obtain rfl:=hwq2.symm;dsimp only))
    all_goals
     generalize Value.agg #[.string nm2,.int .i64 nb,.func (.func F2) #[] #[]]=u1
     generalize Value.func (.func F2) #[] #[]=u2
     first
      | exact⟨rfl,u1,u2,rfl,((uh HC).below (uh q5)).all' jb,((uh HS).trans (Save2.of_below (uh q5))).set (Or.inl rfl) _⟩
      | exact⟨rfl,u1,u2,rfl,(((uh HC).below (uh q5)).all' jb).drew,(((uh HS).trans (Save2.of_below (uh q5))).set (Or.inl rfl) _).drew⟩
      | trace_state
   case right =>
   rintro u1 u2 w8 ⟨HC8,HS8⟩
   have HFN:Hid (O (.returned (.tuple #[])) w8):=by
    show O _ _
    rw[← uh hO]
    exact⟨rfl,(Save2.of_below hb0).trans (uh HS8),by rw[uh HJ];exact uh HC8⟩
   go_wp2
   exact bodyPost_ret (v := .tuple #[]) (by simp[results,Tryz.results73,go_sem]) rfl (uh HFN)
end Go.Proofs.YteflnddphpjahaaGreatDoor
