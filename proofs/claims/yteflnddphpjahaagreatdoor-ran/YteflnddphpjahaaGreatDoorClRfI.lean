import Derived.Test.YteflnddphpjahaaGreatDoorClRqFtoRqJ
set_option linter.unusedVariables false
set_option linter.unusedSimpArgs false
set_option maxRecDepth 100000
set_option maxHeartbeats 16000000
namespace Go.Proofs.YteflnddphpjahaaGreatDoor
open Go.RowKit
theorem rstep_any (j:JV) (P:Sp.Pg) (vs:List Int) (Es:List Sp.Ed) (v:CV) (c:Sp.Cfg) (step n:Nat) (w:World) (hj:JobR w j P vs Es) (hn:vs.length=n) (hc:CfgR w n v c) (hs:step≤100000) (hx:∀ x n,Sp.number x=some n→Sp.i64 n) :
  Calls Tryz.prog 32 #[.agg (jobA j),.agg (cfgA n v c.all),.int .i64 step] w (SPost (Sp.stp P Es c step n) P n v c w):=by
 obtain⟨t2,ht2,hva,hvb,hvc⟩:=info_parts Tryz.info_sent
 generalize hO:SPost (Sp.stp P Es c step n) P n v c w=O
 replace hO:=hde hO
 have HJ:=hde hj
 have HN:=hde hn
 have HC:=hde hc
 have HX:=hde hx
 have hn64:n≤64:=by rw[← hn];exact hj.ok.n64
 have HNA:Hid (∀ a b W,Calls Tryz.prog 58 #[.string j.bal,.int .i64 a,.int .i64 b] W fun e w'=>e = .returned (.int .i64 (Sp.joinK P.al a b))∧w'=W):=by
  show ∀ a b W,_
  intro a b W
  have h:=rjoin j.bal (by rw[hj.al];exact hj.ok.alK) a b W
  rw[hj.al] at h
  exact h
 have HNB:Hid (∀ a b W,Calls Tryz.prog 58 #[.string j.bby,.int .i64 a,.int .i64 b] W fun e w'=>e = .returned (.int .i64 (Sp.joinK P.by' a b))∧w'=W):=by
  show ∀ a b W,_
  intro a b W
  have h:=rjoin j.bby (by rw[hj.by'];exact hj.ok.byK) a b W
  rw[hj.by'] at h
  exact h
 have HB0:=hde (three_new w (jobA j) (cfgA n v c.all) #[.slice none 0 0,.slice none 0 0,.slice none 0 0,.slice none 0 0,.int .i64 0] 109 114 114)
 have HF:=hde (fun W (hb:Below w.heap.size w W)=>rfirst_any j P vs Es W (hj.below hb))
 clear hj hc hx
 unfold jobA cfgA at *
 go_enter Tryz.func32,Tryz.ntmps32
 go_wp2_with fail
 generalize hW:World.alloc (World.alloc _ _) _=W0
 obtain⟨hbj,hbc,hbr,hb0,hz0⟩:=uh HB0 W0 hW.symm
 have HBJ:=hde hbj
 have HBC:=hde hbc
 have HBR:=hde hbr
 clear hW HB0 hbj hbc hbr
 refine(uh HF W0 hb0).mono ?_
 rintro e w1 ⟨hb1,vv,rr,gg,ii,rfl,hrow⟩
 rw[hn] at hrow
 obtain⟨pv,kv,hvv,_⟩:=osl hrow.o0
 obtain⟨pr,kr,hrr,_⟩:=osl hrow.o1
 obtain⟨pg,kg,hgg,_⟩:=osl hrow.o2
 obtain⟨pi,ki,hii,_⟩:=osl hrow.o3
 rw[hn] at hvv
 rw[List.length_replicate] at hrr hgg hii
 subst hvv hrr hgg hii
 obtain⟨na,HNN⟩:∃ na,Hid (Sp.noneK P.al=na):=⟨_,rfl⟩
 rw[uh HNN]
 have hCS:=CS.new (C:=w1.heap.size) (heap_alloc_new w1 (.cells #[.slice pv n kv,.slice pr n kr,.slice pg n kg,.slice pi n ki,.int .i64 na] 114)) hrow nlr ((Below.refl _ _).alloc nlr _)
 have HS0:Hid (S1 W0 (w1.alloc (.cells #[.slice pv n kv,.slice pr n kr,.slice pg n kg,.slice pi n ki,.int .i64 na] 114)) w1.heap.size W0.heap.size P Es vs c step n 0 (.slice pv n kv) (.slice pr n kr) (.slice pg n kg) (.slice pi n ki) (.slice none 0 0) ⟨[],[],Sp.noneK P.al,[]⟩):=by
  refine⟨rfl,⟨?_,World.ownsRow_nil _ _ _ _,Or.inl rfl,Or.inl rfl,Or.inl rfl,Or.inl rfl,fun e=>by cases e⟩,hb1.trans ((Below.refl _ _).alloc hb1.size _)⟩
  rw[uh HNN]
  exact hCS
 have hCl:W0.heap.size≤w1.heap.size:=hb1.size
 clear hCS hrow hb1
 go_wp2_with fail
 go_loopw [9,10] (fun s i wr=>∃ (k:Nat) (sv:Value) (a:Sp.Acc),k≤n∧i = .int .i64 k∧s=sv∧Hid (S1 W0 wr w1.heap.size W0.heap.size P Es vs c step n k (.slice pv n kv) (.slice pr n kr) (.slice pg n kg) (.slice pi n ki) sv a)) (fun _ i _=>n - (intOf i).toNat)
 case atStart=>exact⟨0,_,_,Nat.zero_le _,rfl,rfl,HS0⟩
 case round =>
  clear HS0 HF
  obtain⟨C,hC⟩:∃ C,w1.heap.size=C:=⟨_,rfl⟩
  rw[hC] at hrel hCl ⊢
  obtain⟨k,sv,a,hk,rfl,hsv,HS⟩:=hrel
  obtain rfl:=hsv.symm
  clear hsv
  have hbB:=(uh HS).bel
  have hbw:Below w.heap.size w wr:=hb0.trans (hbB.mono (by omega))
  have HOKA:Hid (Sp.AccOk n k a):=by
   have h1:=(uh HJ).ok
   rw[uh HN] at h1
   exact Sp.stp_ok h1 (uh HX) (uh HC).ok hs k hk a (uh HS).st
  obtain⟨q0,q1,q2,q3,q4⟩:=cfg_cells (n:=n) (v:=v) (all:=c.all) ((hbB.block (w.heap.size+1) (by omega)).trans (uh HBC))
  by_cases hlt:k < n
  ·have hltz:(k:Int) < (n:Int):=by omega
   have g0:(0:Int)≤(k:Int):=Int.natCast_nonneg _
   have HA:=hde (rawake n v c k step wr ((uh HC).below hbw) hlt hn64 hs)
   obtain⟨aw,HAW⟩:∃ aw,Hid (Sp.awake c k step=aw):=⟨_,rfl⟩
   rw[uh HAW] at HA
   unfold cfgA at HA
   go_wp2_with fail
   refine(uh HA).mono ?_
   rintro e w2 ⟨rfl,hb2⟩
   have HCS2:=hde ((uh HS).css.below hb2)
   have hbB2:Below W0.heap.size W0 w2:=hbB.trans (hb2.mono hbB.size)
   have hbw2:Below w.heap.size w w2:=hb0.trans (hbB2.mono (by omega))
   clear q0 q1 q2 q3 q4 hbB hbw HA hb2
   obtain⟨q0,q1,q2,q3,q4⟩:=cfg_cells (n:=n) (v:=v) (all:=c.all) ((hbB2.block (w.heap.size+1) (by omega)).trans (uh HBC))
   have hVl:(a.val++vs.drop k).length=n:=by rw[List.length_append,(uh HOKA).lv,List.length_drop,uh HN];omega
   have hRl:(a.rst++List.replicate (n - k) false).length=n:=by rw[List.length_append,(uh HOKA).lr,List.length_replicate];omega
   obtain⟨gv,gr,gg,gi,rfl,rfl,rfl,rfl,lv,lr,lg,li⟩:=(uh HCS2).cs.forms hVl hRl (by rw[List.length_replicate]) (by rw[List.length_replicate]) (by omega)
   have x0:=(uh HCS2).cs.c0
   have x1:=(uh HCS2).cs.c1
   have hC2:=(uh HCS2).cs.lt
   have HVL:=hde hVl
   have HNE:Hid (gv≠gr):=fun e=>by have h:=(uh HCS2).cs.n01;rcases h with h | h;cases h;exact h (by rw[e];rfl)
   have HRL:=hde hRl
   obtain⟨y0,hy0⟩:=int_cell (uh HCS2).cs.o0 hVl hlt
   obtain⟨y1,hy1⟩:=bool_cell (uh HCS2).cs.o1 hRl hlt
   have fy0:w2.frozen? ⟨gv,k,none⟩=false:=by have h:=(uh HCS2).cs.o0;rw[hVl] at h;exact h.frozenAt k
   have fy1:w2.frozen? ⟨gr,k,none⟩=false:=by have h:=(uh HCS2).cs.o1;rw[hRl] at h;exact h.frozenAt k
   clear hVl hRl
   cases aw with
   | false =>
    obtain⟨cv,cr,cg,ci,e1,e2,e3,e4,l1,l2,l3,l4,d1',d2',d3,d4⟩:=(uh HC).at hlt
    have d1:=(hbw2.cell (p:=⟨cv,k,none⟩) l1).trans d1'
    have d2:=(hbw2.cell (p:=⟨cr,k,none⟩) l2).trans d2'
    clear d1' d2'
    rw[e1] at q0
    rw[e2] at q1
    have HST:=hde (Sp.stp_skip (uh HS).st (uh HAW))
    generalize c.val.getD k 0=z0 at *
    generalize c.rst.getD k false=z1 at *
    clear d3 d4 l3 l4 e1 e2 e3 e4 q2 q3 q4
    go_upto_region 8 with fail
    apply wp_joinR (fun w'=>Hid (CSS w' C W0.heap.size (.slice (some ⟨gv,0,none⟩) n kv) (.slice (some ⟨gr,0,none⟩) n kr) (.slice (some ⟨gg,0,none⟩) n kg) (.slice (some ⟨gi,0,none⟩) n ki) sv a.all ((a.val++vs.drop k).set k z0) (a.rst++List.replicate (n - k) false) (List.replicate n 0) (List.replicate n (Sp.noneK P.by')) a.sent)∧Hid (Below W0.heap.size W0 w')∧w'.cell? ⟨cr,k,none⟩=some (.bool z1)∧w'.cell? ⟨w.heap.size+1,1,none⟩=some (.slice (some ⟨cr,0,none⟩) n v.kr)∧w'.cell? ⟨gr,k,none⟩=some (.bool y1))
    apply Exists.intro
    apply And.intro
    case left =>
     go_region_law fail
     all_goals first
      | exact⟨rfl,rfl,(uh HCS2).set0' (uh HVL) z0,hbB2.setCell (p:=⟨gv,k,none⟩) lv.1 _,(cellb_other (by omega)).trans d2,(cellb_other (by omega)).trans q1,(cellb_other (uh HNE)).trans hy1⟩
      | exact⟨rfl,rfl,((uh HCS2).set0' (uh HVL) z0).drew,(hbB2.setCell (p:=⟨gv,k,none⟩) lv.1 _).drew,(cellb_other (by omega)).trans d2,(cellb_other (by omega)).trans q1,(cellb_other (uh HNE)).trans hy1⟩
      | trace_state
    case right =>
    rintro w3 ⟨HCS3,HB3,e2,p1,y1'⟩
    clear x0 x1 q0 q1 d1 d2 hy0 hy1 fy0 fy1 hbB2 hbw2
    have x1:=(uh HCS3).cs.c1
    have fy1:w3.frozen? ⟨gr,k,none⟩=false:=by have h:=(uh HCS3).cs.o1;rw[uh HRL] at h;exact h.frozenAt k
    go_upto_region 9 with fail
    apply wp_joinR (fun w'=>Hid (CSS w' C W0.heap.size (.slice (some ⟨gv,0,none⟩) n kv) (.slice (some ⟨gr,0,none⟩) n kr) (.slice (some ⟨gg,0,none⟩) n kg) (.slice (some ⟨gi,0,none⟩) n ki) sv a.all ((a.val++vs.drop k).set k z0) ((a.rst++List.replicate (n - k) false).set k z1) (List.replicate n 0) (List.replicate n (Sp.noneK P.by')) a.sent)∧Hid (Below W0.heap.size W0 w'))
    apply Exists.intro
    apply And.intro
    case left =>
     go_region_law fail
     all_goals first
      | exact⟨rfl,rfl,(uh HCS3).set1' (uh HRL) z1,(uh HB3).setCell (p:=⟨gr,k,none⟩) lr.1 _⟩
      | exact⟨rfl,rfl,((uh HCS3).set1' (uh HRL) z1).drew,((uh HB3).setCell (p:=⟨gr,k,none⟩) lr.1 _).drew⟩
      | trace_state
    case right =>
    rintro w4 ⟨HCS4,HB4⟩
    clear x1 fy1 e2 p1 y1' HCS3 HB3
    have HS2:Hid (S1 W0 w4 C W0.heap.size P Es vs c step n (k+1) (.slice (some ⟨gv,0,none⟩) n kv) (.slice (some ⟨gr,0,none⟩) n kr) (.slice (some ⟨gg,0,none⟩) n kg) (.slice (some ⟨gi,0,none⟩) n ki) sv ⟨a.val++[z0],a.rst++[z1],a.all,a.sent⟩):=S1.step (x:=z0) (y:=z1) (uh HOKA) hlt (uh HN) (uh HST) rfl rfl (uh HCS4) (uh HB4)
    go_wp2
    go_roundw
    case rel=>exact⟨k+1,sv,_,by omega,by go_num,rfl,HS2⟩
    case measure=>simp[intOf];omega
   | true =>
    have HTU:=hde (rturn_any j P vs Es v c k step w2 ((uh HJ).below hbw2) (by rw[uh HN];exact(uh HC).below hbw2) (by rw[uh HN];exact hlt) hs)
    rw[uh HN] at HTU
    unfold jobA cfgA at HTU
    obtain⟨u0,u1,u2,u3,u4,u5,u6,u7,u8,u9,u10⟩:=job_cells (j:=j) ((hbB2.block w.heap.size (by omega)).trans (uh HBJ))
    obtain⟨o,HTO⟩:∃ o,Hid (Sp.turn P Es c k step=o):=⟨_,rfl⟩
    rw[uh HTO] at HTU
    go_wp2_with fail
    cases o with
    | none =>
     have HST:Hid (Sp.stp P Es c step n = .error k):=by
      have h:=Sp.stp_err (n - (k+1)) (k+1) (Sp.stp_bad (uh HS).st (uh HAW) (uh HTO))
      rw[show k+1+(n - (k+1))=n by omega] at h
      exact h
     refine(uh HTU).mono ?_
     rintro e w3 ⟨hb3,a',c',b',p',n',k',rfl⟩
     have hbB3:Below W0.heap.size W0 w3:=hbB2.trans (hb3.mono hbB2.size)
     have hz3:=hbB3.size
     clear q0 q1 q2 q3 q4 u0 u1 u2 u3 u4 u5 u6 u7 u8 u9 u10 x0 x1 hy0 hy1 fy0 fy1 HCS2 HTU hbB2 hbw2
     obtain⟨q0,q1,q2,q3,q4⟩:=cfg_cells (n:=n) (v:=v) (all:=c.all) ((hbB3.block (w.heap.size+1) (by omega)).trans (uh HBC))
     have hR:w3.heap[w.heap.size+1+1]? = _:=(hbB3.block (w.heap.size+1+1) (by omega)).trans (uh HBR)
     have r0:w3.cell? ⟨w.heap.size+1+1,0,none⟩=some (.slice none 0 0):=by simp[World.cell?,hR]
     have r1:w3.cell? ⟨w.heap.size+1+1,1,none⟩=some (.slice none 0 0):=by simp[World.cell?,hR]
     have r2:w3.cell? ⟨w.heap.size+1+1,2,none⟩=some (.slice none 0 0):=by simp[World.cell?,hR]
     have r3:w3.cell? ⟨w.heap.size+1+1,3,none⟩=some (.slice none 0 0):=by simp[World.cell?,hR]
     have r4:w3.cell? ⟨w.heap.size+1+1,4,none⟩=some (.int .i64 0):=by simp[World.cell?,hR]
     have rf0:w3.frozen? ⟨w.heap.size+1+1,0,none⟩=false:=by simp[World.frozen?,hR]
     have rf1:w3.frozen? ⟨w.heap.size+1+1,1,none⟩=false:=by simp[World.frozen?,hR]
     have rf2:w3.frozen? ⟨w.heap.size+1+1,2,none⟩=false:=by simp[World.frozen?,hR]
     have rf3:w3.frozen? ⟨w.heap.size+1+1,3,none⟩=false:=by simp[World.frozen?,hR]
     have rf4:w3.frozen? ⟨w.heap.size+1+1,4,none⟩=false:=by simp[World.frozen?,hR]
     have hK3:w.heap.size+1 < w3.heap.size:=by omega
     have hR3:w.heap.size+1+1 < w3.heap.size:=by omega
     have HFN:Hid (∀ o,O (.returned (.tuple #[.agg #[.slice v.pv n v.kv,.slice v.pr n v.kr,.slice v.pg n v.kg,.slice v.pi n v.ki,.int .i64 c.all],.int .i64 k])) ((set5 w3 (w.heap.size+1+1) (.slice v.pv n v.kv) (.slice v.pr n v.kr) (.slice v.pg n v.kg) (.slice v.pi n v.ki) (.int .i64 c.all)).alloc o)):=by
      show ∀ o,_
      intro o
      rw[← uh hO,uh HST]
      have h5:Below w.heap.size w (set5 w3 (w.heap.size+1+1) (.slice v.pv n v.kv) (.slice v.pr n v.kr) (.slice v.pg n v.kg) (.slice v.pi n v.ki) (.int .i64 c.all)):=below_set5 (hb0.trans (hbB3.mono (by omega))) (by omega) _ _ _ _ _
      exact⟨h5.alloc h5.size o,rfl⟩
     have HXC:=hde (fun o i=>cells_alloc (set5_blk hR (.slice v.pv n v.kv) (.slice v.pr n v.kr) (.slice v.pg n v.kg) (.slice v.pi n v.ki) (.int .i64 c.all)) o i)
     unfold set5 at HXC
     clear hR hbB3
     go_wp2
     have hXC:=uh HXC
     exact bodyPost_ret (v := .tuple #[.agg #[.slice v.pv n v.kv,.slice v.pr n v.kr,.slice v.pg n v.kg,.slice v.pi n v.ki,.int .i64 c.all],.int .i64 k]) (by simp[results,Tryz.results32,go_sem,hXC]) rfl (uh HFN _)
    | some t =>
     have HTK:Hid (Sp.TnOk n t):=by
      have h1:=(uh HJ).ok
      rw[uh HN] at h1
      exact Sp.turn_ok h1 (uh HX) (uh HC).ok hlt hs (uh HTO)
     have HST:=hde (Sp.stp_turn (uh HS).st (uh HAW) (uh HTO))
     refine(uh HTU).mono ?_
     rintro e w3 ⟨hb3,sv2,rfl,ho3⟩
     obtain⟨p2,k2,hsv2,_⟩:=osl ho3
     subst hsv2
     have hbB3:Below W0.heap.size W0 w3:=hbB2.trans (hb3.mono hbB2.size)
     have hz3:=hb3.size
     have hzB:=hbB3.size
     obtain⟨m2,HM2⟩:∃ m2,Hid (t.sent.length=m2):=⟨_,rfl⟩
     rw[uh HM2] at ho3 ⊢
     have HT4:Hid (StT (w3.alloc (.cells #[.int .i64 t.value,.bool t.rests,.int .i64 t.give,.slice p2 m2 k2] 147)) w3.heap.size w2.heap.size t (.slice p2 m2 k2)):=⟨heap_alloc_new w3 _,by rw[uh HM2];exact ho3.alloc _,hz3⟩
     have HC4:=hde (((uh HCS2).below hb3).below ((Below.refl _ w3).alloc nlr (.cells #[.int .i64 t.value,.bool t.rests,.int .i64 t.give,.slice p2 m2 k2] 147)))
     have HB4:=hde (hbB3.alloc hzB (.cells #[.int .i64 t.value,.bool t.rests,.int .i64 t.give,.slice p2 m2 k2] 147))
     clear q0 q1 q2 q3 q4 u0 u1 u2 u3 u4 u5 u6 u7 u8 u9 u10 x0 x1 hy0 hy1 fy0 fy1 HCS2 HTU hbB2 hbw2 ho3 hb3
     go_upto_region 13 with fail
     generalize World.alloc w3 _=W4 at HT4 HC4 HB4 ⊢
     obtain⟨T,hT⟩:∃ T,w3.heap.size=T:=⟨_,rfl⟩
     rw[hT] at HT4 ⊢
     have x0:=(uh HC4).cs.c0
     obtain⟨y0,hy0⟩:=int_cell (uh HC4).cs.o0 (uh HVL) hlt
     have fy0:W4.frozen? ⟨gv,k,none⟩=false:=by have h:=(uh HC4).cs.o0;rw[uh HVL] at h;exact h.frozenAt k
     have s0:W4.cell? ⟨T,0,none⟩=some (.int .i64 t.value):=by simp[World.cell?,(uh HT4).tb]
     go_upto_region 14 with fail
     have HC5:=hde ((uh HC4).set0' (i:=k) (uh HVL) t.value)
     have HB5:=hde ((uh HB4).setCell (p:=⟨gv,k,none⟩) lv.1 (.int .i64 t.value))
     have HT5:=hde ((uh HT4).set (i:=k) (v := .int .i64 t.value) lv.2)
     clear x0 hy0 fy0 s0 HC4 HB4 HT4
     generalize World.setCell _ _ _=W5 at HC5 HB5 HT5 ⊢
     have x1:=(uh HC5).cs.c1
     obtain⟨y1,hy1⟩:=bool_cell (uh HC5).cs.o1 (uh HRL) hlt
     have fy1:W5.frozen? ⟨gr,k,none⟩=false:=by have h:=(uh HC5).cs.o1;rw[uh HRL] at h;exact h.frozenAt k
     have s1:W5.cell? ⟨T,1,none⟩=some (.bool t.rests):=by simp[World.cell?,(uh HT5).tb]
     go_upto_region 15 with fail
     have HC6:=hde ((uh HC5).set1' (i:=k) (uh HRL) t.rests)
     have HB6:=hde ((uh HB5).setCell (p:=⟨gr,k,none⟩) lr.1 (.bool t.rests))
     have HT6:=hde ((uh HT5).set (i:=k) (v := .bool t.rests) lr.2)
     clear x1 hy1 fy1 s1 HC5 HB5 HT5
     generalize World.setCell _ _ _=W6 at HC6 HB6 HT6 ⊢
     have x4:=(uh HC6).cs.c4
     have f4:=(uh HC6).cs.fz 4
     have s2:W6.cell? ⟨T,2,none⟩=some (.int .i64 t.give):=by simp[World.cell?,(uh HT6).tb]
     have u9:=(job_cells (j:=j) (((uh HB6).block w.heap.size (by omega)).trans (uh HBJ))).2.2.2.2.2.2.2.2.2.1
     obtain⟨ja,HJA⟩:∃ ja,Hid (Sp.joinK P.al a.all t.give=ja):=⟨_,rfl⟩
     have HJC:Hid (∀ W,Calls Tryz.prog 58 #[.string j.bal,.int .i64 a.all,.int .i64 t.give] W fun e w'=>e = .returned (.int .i64 ja)∧w'=W):=by
      show ∀ W,_
      intro W
      have h:=uh HNA a.all t.give W
      rw[uh HJA] at h
      exact h
     go_upto_region 16 with (first | (go_at_call 58;go_must (refine(uh HJC _).mono ?_);rintro e wq ⟨rfl,hwq⟩;obtain rfl:=hwq.symm))
     have HC7:=hde ((uh HC6).all' ja)
     have HB7:=hde ((uh HB6).setCell (p:=⟨C,4,none⟩) hCl (.int .i64 ja))
     have HT7:=hde ((uh HT6).set (q:=C) (i:=4) (v := .int .i64 ja) hC2)
     clear x4 f4 s2 u9 HC6 HB6 HT6
     generalize World.setCell _ _ _=W7 at HC7 HB7 HT7 ⊢
     have s3:W7.cell? ⟨T,3,none⟩=some (.slice p2 m2 k2):=by simp[World.cell?,(uh HT7).tb]
     have hsl:=(uh HOKA).l
     have htl:=(uh HTK).l
     have hW7:=(uh HB7).size
     go_wp2_with (first | (at_builtin;go_must (refine wpList_append_row _ rfl (.tmp 82) (.tmp 84) 145 rfl W0.heap.size 152 t2 _ 2 16 Tryz.underlying145 ht2 hva hvb hvc rfl (by omega) sv _ _ rfl (uh HC7).s w2.heap.size _ _ _ rfl (uh HT7).row (sent_one _) (by unfold maxLen;omega) (by omega) hW7 ?_;intro sv' w8 hown hgrow hat)) | go_in)
     have HC8:=hde ((uh HC7).app hgrow hown hat)
     have hb8:Below W0.heap.size W0 w8:=(uh HB7).grown hgrow hW7 (fun q hq=>((uh HC7).s.lt q hq).1)
     have HS2:Hid (S1 W0 w8 C W0.heap.size P Es vs c step n (k+1) (.slice (some ⟨gv,0,none⟩) n kv) (.slice (some ⟨gr,0,none⟩) n kr) (.slice (some ⟨gg,0,none⟩) n kg) (.slice (some ⟨gi,0,none⟩) n ki) sv' ⟨a.val++[t.value],a.rst++[t.rests],Sp.joinK P.al a.all t.give,a.sent++t.sent⟩):=S1.step (x:=t.value) (y:=t.rests) (uh HOKA) hlt (uh HN) (uh HST) rfl rfl (by rw[uh HJA];exact uh HC8) hb8
     clear HC7 HB7 HT7 HC8 hown hgrow hat s3 hb8
     go_wp2
     go_roundw
     case rel=>exact⟨k+1,sv',_,by omega,by go_num,rfl,HS2⟩
     case measure=>simp[intOf];omega
  ·have hkn:k=n:=by omega
   have hltz:¬ (k:Int) < (n:Int):=by omega
   have HST:Hid (Sp.stp P Es c step n = .ok a):=by have h:=(uh HS).st;rw[hkn] at h;exact h
   have HC0:Hid (CSS wr C W0.heap.size (.slice pv n kv) (.slice pr n kr) (.slice pg n kg) (.slice pi n ki) sv a.all a.val a.rst (Sp.mixG a.sent n 0 0) (Sp.mixI P a.sent n 0 0) a.sent):=by
    have h:=(uh HS).css
    rw[hkn,Nat.sub_self,List.drop_of_length_le (by rw[uh HN];exact Nat.le_refl _),List.append_nil,List.replicate_zero,List.append_nil] at h
    show CSS _ _ _ _ _ _ _ _ _ _ _ _ _ _
    rw[Sp.mixG_start,Sp.mixI_start]
    exact h
   have HB0':=hde hbB
   rw[hkn] at HOKA
   obtain⟨ls,HLS⟩:∃ ls,Hid (a.sent.length=ls):=⟨_,rfl⟩
   have hlsb:ls≤16384:=by have:=(uh HOKA).l;have:=uh HLS;have:n * 256≤64 * 256:=Nat.mul_le_mul_right _ hn64;omega
   obtain⟨psv,ksv,hsvs,hsvc⟩:=osl (uh HC0).s
   rw[uh HLS] at hsvs
   subst hsvs
   have HSC:Hid (∀ (wq:World) G I,CSS wq C W0.heap.size (.slice pv n kv) (.slice pr n kr) (.slice pg n kg) (.slice pi n ki) (.slice psv ls ksv) a.all a.val a.rst G I a.sent→∀ m,(h:m < a.sent.length)→∃ gs,psv=some ⟨gs,0,none⟩∧wq.cell? ⟨gs,m * 2,none⟩=some (.int .i64 (a.sent[m].1:Int))∧wq.cell? ⟨gs,m * 2+1,none⟩=some (.int .i64 a.sent[m].2)):=by
    intro wq G I hq m hm
    obtain⟨p',k',e',h'⟩:=osl hq.s
    injection e' with e1 e2 e3
    subst e1
    obtain⟨gs,hp1,_,_,c1⟩:=h' (m * 2) (by omega)
    obtain⟨gs2,hp2,_,_,c2⟩:=h' (m * 2+1) (by omega)
    have q1:gs2=gs:=by rw[hp1] at hp2;injection hp2 with q;injection q with q;exact q.symm
    subst q1
    obtain⟨d1,d2⟩:=sent_get a.sent m hm
    exact⟨_,hp1,c1.trans d1,c2.trans d2⟩
   clear hsvc HS q1 q2 q3 q4 hbw
   go_wp2
   go_loopw [14] (fun i wr2=>∃ q:Nat,q≤n∧i = .int .i64 q∧Hid (CSS wr2 C W0.heap.size (.slice pv n kv) (.slice pr n kr) (.slice pg n kg) (.slice pi n ki) (.slice psv ls ksv) a.all a.val a.rst (Sp.mixG a.sent n q 0) (Sp.mixI P a.sent n q 0) a.sent)∧Hid (Below W0.heap.size W0 wr2)) (fun i _=>n - (intOf i).toNat)
   case atStart=>exact⟨0,Nat.zero_le _,rfl,HC0,HB0'⟩
   case round =>
    clear HC0 HB0' q0 hbB
    obtain⟨q,hq,rfl,HC2,HB2⟩:=hrel
    have q0:=(cfg_cells (n:=n) (v:=v) (all:=c.all) (((uh HB2).block (w.heap.size+1) (by omega)).trans (uh HBC))).1
    by_cases hqn:q < n
    ·have hqz:(q:Int) < (n:Int):=by omega
     go_wp2
     go_loopw [15] (fun i wr3=>∃ m:Nat,m≤ls∧i = .int .i64 m∧Hid (CSS wr3 C W0.heap.size (.slice pv n kv) (.slice pr n kr) (.slice pg n kg) (.slice pi n ki) (.slice psv ls ksv) a.all a.val a.rst (Sp.mixG a.sent n q m) (Sp.mixI P a.sent n q m) a.sent)∧Hid (Below W0.heap.size W0 wr3)) (fun i _=>ls - (intOf i).toNat)
     case atStart=>exact⟨0,Nat.zero_le _,rfl,HC2,HB2⟩
     case round =>
      clear HC2 HB2 q0
      obtain⟨m,hm,rfl,HC3,HB3⟩:=hrel
      by_cases hml:m < ls
      ·have hmz:(m:Int) < (ls:Int):=by omega
       have gm0:(0:Int)≤(m:Int):=Int.natCast_nonneg _
       have gq0:(0:Int)≤(q:Int):=Int.natCast_nonneg _
       have hms:m < a.sent.length:=by rw[uh HLS];exact hml
       obtain⟨gs,hgs,e1,e2⟩:=uh HSC _ _ _ (uh HC3) m hms
       subst hgs
       by_cases hto:a.sent[m].1=q
       ·have HG1:Hid (Sp.gotOf (a.sent.take (m+1)) q=Sp.gotOf (a.sent.take m) q+1):=by show _=_;rw[Sp.gotOf_take hms,if_pos hto]
        have HI1:Hid (Sp.innOf P (a.sent.take (m+1)) q=Sp.joinK P.by' (Sp.innOf P (a.sent.take m) q) a.sent[m].2):=by show _=_;rw[Sp.innOf_take P hms,if_pos hto]
        rw[hto] at e1
        have hqq:((q:Int) == (q:Int))=true:=by simp
        obtain⟨gv,gr,gg,gi,rfl,rfl,rfl,rfl,lv,lr,lg,li⟩:=(uh HC3).cs.forms (uh HOKA).lv (uh HOKA).lr (Sp.mixG_len _ _ _ _) (Sp.mixI_len _ _ _ _ _) (by omega)
        have y2:=int_cellD (uh HC3).cs.o2 (Sp.mixG_len _ _ _ _) hqn
        have y3:=int_cellD (uh HC3).cs.o3 (Sp.mixI_len _ _ _ _ _) hqn
        rw[Sp.mixG_at _ hqn] at y2
        rw[Sp.mixI_at _ _ hqn] at y3
        have hgb:=Sp.gotOf_ok (a.sent.take m) q
        have htm:(a.sent.take m).length≤16384:=by rw[List.length_take];have:=uh HLS;omega
        have HGS:=hde (Sp.mixG_set a.sent n (i:=q) (k:=m))
        have HIS:=hde (Sp.mixI_set P a.sent n (i:=q) (k:=m))
        rw[uh HG1] at HGS
        rw[uh HI1] at HIS
        generalize Sp.gotOf (a.sent.take m) q=x at *
        generalize Sp.innOf P (a.sent.take m) q=z at *
        have hwx:IntKind.i64.wrap (x+1)=x+1:=by rw[IntKind.wrap_i64];omega
        obtain⟨ms,hms2⟩:∃ ms:Int,a.sent[m].2=ms:=⟨_,rfl⟩
        have HMS:=hde hms2
        clear hms2
        rw[uh HMS] at e2 HIS
        have f2:wr.frozen? ⟨gg,q,none⟩=false:=by have h:=(uh HC3).cs.o2;rw[Sp.mixG_len] at h;exact h.frozenAt q
        have x2:=(uh HC3).cs.c2
        have hC3:=(uh HC3).cs.lt
        have hgi:gg≠gi:=fun e=>by have h:=(uh HC3).cs.n23;rcases h with h | h;cases h;exact h (by rw[e];rfl)
        have hgs2:gs≠gg:=fun e=>by have h:=(uh HC3).a2;rcases h with h | h;cases h;exact h (by rw[e];rfl)
        clear hgb htm hto
        go_upto_region 24 with fail
        apply wp_joinR (fun w'=>Hid (CSS w' C W0.heap.size (.slice (some ⟨gv,0,none⟩) n kv) (.slice (some ⟨gr,0,none⟩) n kr) (.slice (some ⟨gg,0,none⟩) n kg) (.slice (some ⟨gi,0,none⟩) n ki) (.slice (some ⟨gs,0,none⟩) ls ksv) a.all a.val a.rst ((Sp.mixG a.sent n q m).set q (x+1)) (Sp.mixI P a.sent n q m) a.sent)∧Hid (Below W0.heap.size W0 w')∧w'.cell? ⟨gi,q,none⟩=some (.int .i64 z)∧w'.cell? ⟨gs,m * 2+1,none⟩=some (.int .i64 ms))
        apply Exists.intro
        apply And.intro
        case left =>
         go_region_law fail
         all_goals first
          | exact⟨rfl,rfl,(uh HC3).set2' (Sp.mixG_len _ _ _ _) (x+1),(uh HB3).setCell (p:=⟨gg,q,none⟩) lg.1 _,(cellb_other hgi).trans y3,(cellb_other (Ne.symm hgs2)).trans e2⟩
          | exact⟨rfl,rfl,((uh HC3).set2' (Sp.mixG_len _ _ _ _) (x+1)).drew,((uh HB3).setCell (p:=⟨gg,q,none⟩) lg.1 _).drew,(cellb_other hgi).trans y3,(cellb_other (Ne.symm hgs2)).trans e2⟩
          | trace_state
        case right =>
        rintro w4 ⟨HC4,HB4,y4,e4⟩
        clear x2 f2 y2 y3 e1 e2 hwx
        have x3:=(uh HC4).cs.c3
        have f3:w4.frozen? ⟨gi,q,none⟩=false:=by have h:=(uh HC4).cs.o3;rw[Sp.mixI_len] at h;exact h.frozenAt q
        have u8:=(job_cells (j:=j) (((uh HB4).block w.heap.size (by omega)).trans (uh HBJ))).2.2.2.2.2.2.2.2.1
        obtain⟨jb,HJB⟩:∃ jb,Hid (Sp.joinK P.by' z ms=jb):=⟨_,rfl⟩
        rw[uh HJB] at HIS
        have HJC:Hid (∀ W,Calls Tryz.prog 58 #[.string j.bby,.int .i64 z,.int .i64 ms] W fun e w'=>e = .returned (.int .i64 jb)∧w'=W):=by
         show ∀ W,_
         intro W
         have h:=uh HNB z ms W
         rw[uh HJB] at h
         exact h
        have HEN:Hid (∀ (args:Array Value) (w:World),(callFunc 58 args).run Tryz.prog w = .ok (.enter 58 args) w):=cfe Tryz.func58 (by kernel_rfl) (by kernel_rfl)
        go_upto_region 25 with fail
        apply wp_joinR (fun w'=>Hid (CSS w' C W0.heap.size (.slice (some ⟨gv,0,none⟩) n kv) (.slice (some ⟨gr,0,none⟩) n kr) (.slice (some ⟨gg,0,none⟩) n kg) (.slice (some ⟨gi,0,none⟩) n ki) (.slice (some ⟨gs,0,none⟩) ls ksv) a.all a.val a.rst (Sp.mixG a.sent n q (m+1)) (Sp.mixI P a.sent n q (m+1)) a.sent)∧Hid (Below W0.heap.size W0 w'))
        apply Exists.intro
        apply And.intro
        case left =>
         go_region_law (refine step_call (by rfl) _ _ _ (by rfl) 58 (by rfl) _ (by rfl) (uh HEN) (uh HJC _) ?_;rintro e wq ⟨rfl,hwq⟩;obtain rfl:=hwq.symm;dsimp only)
         all_goals first
          | exact⟨rfl,rfl,by show CSS _ _ _ _ _ _ _ _ _ _ _ _ _ _;rw[← uh HGS,← uh HIS];exact(uh HC4).set3' (Sp.mixI_len _ _ _ _ _) jb,(uh HB4).setCell (p:=⟨gi,q,none⟩) li.1 _⟩
          | exact⟨rfl,rfl,by show CSS _ _ _ _ _ _ _ _ _ _ _ _ _ _;rw[← uh HGS,← uh HIS];exact((uh HC4).set3' (Sp.mixI_len _ _ _ _ _) jb).drew,((uh HB4).setCell (p:=⟨gi,q,none⟩) li.1 _).drew⟩
          | trace_state
        case right =>
        rintro w5 ⟨HC5,HB5⟩
        clear x3 f3 u8 y4 e4 HC4 HB4 HC3 HB3
        go_wp2
        go_roundw
        case rel=>exact⟨m+1,by omega,by go_num,HC5,HB5⟩
        case measure=>simp[intOf];omega
       ·have hqf:((a.sent[m].1:Int) == (q:Int))=false:=by rw[beq_eq_false_iff_ne];omega
        have HC4:Hid (CSS wr C W0.heap.size (.slice pv n kv) (.slice pr n kr) (.slice pg n kg) (.slice pi n ki) (.slice (some ⟨gs,0,none⟩) ls ksv) a.all a.val a.rst (Sp.mixG a.sent n q (m+1)) (Sp.mixI P a.sent n q (m+1)) a.sent):=by
         show CSS _ _ _ _ _ _ _ _ _ _ _ _ _ _
         rw[Sp.mixG_skip hms hto,Sp.mixI_skip hms hto]
         exact uh HC3
        clear hto
        generalize a.sent[m].1=ms1 at *
        go_wp2
        go_roundw
        case rel=>exact⟨m+1,by omega,by go_num,HC4,HB3⟩
        case measure=>simp[intOf];omega
      ·have hmz:¬ (m:Int) < (ls:Int):=by omega
       have hml2:m=ls:=by omega
       have HC4:Hid (CSS wr C W0.heap.size (.slice pv n kv) (.slice pr n kr) (.slice pg n kg) (.slice pi n ki) (.slice psv ls ksv) a.all a.val a.rst (Sp.mixG a.sent n (q+1) 0) (Sp.mixI P a.sent n (q+1) 0) a.sent):=by
        show CSS _ _ _ _ _ _ _ _ _ _ _ _ _ _
        have h:=uh HC3
        rw[hml2] at h
        rw[← Sp.mixG_next,← Sp.mixI_next,uh HLS]
        exact h
       go_wp2
       go_roundw
       case rel=>exact⟨q+1,by omega,by go_num,HC4,HB3⟩
       case measure=>simp[intOf];omega
    ·have hqz:¬ (q:Int) < (n:Int):=by omega
     have hqn2:q=n:=by omega
     have x0:=(uh HC2).cs.c0
     have x1:=(uh HC2).cs.c1
     have x2:=(uh HC2).cs.c2
     have x3:=(uh HC2).cs.c3
     have x4:=(uh HC2).cs.c4
     have hR:wr.heap[w.heap.size+1+1]? = _:=((uh HB2).block (w.heap.size+1+1) (by omega)).trans (uh HBR)
     have r0:wr.cell? ⟨w.heap.size+1+1,0,none⟩=some (.slice none 0 0):=by simp[World.cell?,hR]
     have r1:wr.cell? ⟨w.heap.size+1+1,1,none⟩=some (.slice none 0 0):=by simp[World.cell?,hR]
     have r2:wr.cell? ⟨w.heap.size+1+1,2,none⟩=some (.slice none 0 0):=by simp[World.cell?,hR]
     have r3:wr.cell? ⟨w.heap.size+1+1,3,none⟩=some (.slice none 0 0):=by simp[World.cell?,hR]
     have r4:wr.cell? ⟨w.heap.size+1+1,4,none⟩=some (.int .i64 0):=by simp[World.cell?,hR]
     have rf0:wr.frozen? ⟨w.heap.size+1+1,0,none⟩=false:=by simp[World.frozen?,hR]
     have rf1:wr.frozen? ⟨w.heap.size+1+1,1,none⟩=false:=by simp[World.frozen?,hR]
     have rf2:wr.frozen? ⟨w.heap.size+1+1,2,none⟩=false:=by simp[World.frozen?,hR]
     have rf3:wr.frozen? ⟨w.heap.size+1+1,3,none⟩=false:=by simp[World.frozen?,hR]
     have rf4:wr.frozen? ⟨w.heap.size+1+1,4,none⟩=false:=by simp[World.frozen?,hR]
     have HFN:Hid (O (.returned (.tuple #[.agg #[.slice pv n kv,.slice pr n kr,.slice pg n kg,.slice pi n ki,.int .i64 a.all],.int .i64 (-1)])) (set5 wr (w.heap.size+1+1) (.slice pv n kv) (.slice pr n kr) (.slice pg n kg) (.slice pi n ki) (.int .i64 a.all))):=by
      show O _ _
      rw[← uh hO,uh HST]
      refine⟨below_set5 (hb0.trans ((uh HB2).mono (by omega))) (by omega) _ _ _ _ _,_,_,_,_,rfl,?_⟩
      have h:=(uh HC2).cs.rows
      rw[hqn2,Sp.mixG_end,Sp.mixI_end] at h
      exact(h.set5 (R:=w.heap.size+1+1) (by omega) _ _ _ _ _).low (by omega)
     clear hR HC2 HB2
     go_wp2
     exact bodyPost_ret (v := .tuple #[.agg #[.slice pv n kv,.slice pr n kr,.slice pg n kg,.slice pi n ki,.int .i64 a.all],.int .i64 (-1)]) (by simp[results,Tryz.results32,go_sem,r0,r1,r2,r3,r4]) rfl (uh HFN)
end Go.Proofs.YteflnddphpjahaaGreatDoor
