import Derived.Test.YteflnddphpjahaaGreatDoorCmRqFtoRqJ
import Derived.Deep.RegionHeld3
set_option linter.unusedVariables false
set_option linter.unusedSimpArgs false
set_option maxRecDepth 100000
set_option maxHeartbeats 16000000
namespace Go.Proofs.YteflnddphpjahaaGreatDoor
open Go.RowKit
theorem job4_cells {W:World} {J B:Nat} {pf:Option Addr} {n kf:Nat} {pe:Option Addr} {ke limit:Nat} {t:TypeId} (h:W.heap[J]? = some (.cells (pjobA B pf n kf pe ke limit) t (0,0))):W.cell? ⟨J,0,none⟩=some (.pointer (some ⟨B,0,none⟩))∧W.cell? ⟨J,1,none⟩=some (.slice pf n kf)∧W.cell? ⟨J,2,none⟩=some (.slice pe n ke)∧W.cell? ⟨J,3,none⟩=some (.int .i64 limit):=by
 unfold pjobA at h
 exact⟨by simp[World.cell?,h],by simp[World.cell?,h],by simp[World.cell?,h],by simp[World.cell?,h]⟩
theorem cfg3_cells {W:World} {K:Nat} {a b c:Value} {t:TypeId} (h:W.heap[K]? = some (.cells #[a,b,c] t (0,0))):W.cell? ⟨K,0,none⟩=some a∧W.cell? ⟨K,1,none⟩=some b∧W.cell? ⟨K,2,none⟩=some c∧∀ j,W.frozen? ⟨K,j,none⟩=false :=
 ⟨by simp[World.cell?,h],by simp[World.cell?,h],by simp[World.cell?,h],fun j=>by simp[World.frozen?,h]⟩
theorem pstep (B:Nat) (pf:Option Addr) (n kf:Nat) (pe:Option Addr) (ke limit:Nat) (P:Sp.Pg) (Es:List Sp.Ed) (p:Option Addr) (cap step:Nat) (c:Sp.Cfg) (z f:Addr) (w:World)
  (hp:PrgAt w B P) (her:Errs w z f) (he:EbR w pe n Es) (hv:VxAt w p c n) (hok:Sp.CfgOk n c) (hj:Sp.JobOk P Es n) (hs:step≤100000) :
  Calls Tryz.prog 40 #[.agg (pjobA B pf n kf pe ke limit),pcfgV step p n cap c.all] w (PSPost (Sp.stp P Es c step n) P n step w):=by
 generalize hO:PSPost (Sp.stp P Es c step n) P n step w=O
 replace hO:=hde hO
 have HP:=hde hp
 have HR:=hde her
 have HE:=hde he
 have HV:=hde hv
 have HOK:=hde hok
 have HJ:=hde hj
 have hn64:=hj.n64
 have HB0:=hde (three_new w (pjobA B pf n kf pe ke limit) #[.int .i64 (step:Int),.slice p n cap,.int .i64 c.all] #[.int .i64 0,.slice none 0 0,.int .i64 0] 86 91 91)
 have hws:IntKind.i64.wrap ((step:Int)+1)=(step:Int)+1:=by rw[IntKind.wrap_i64];omega
 have HU:=hde (fun W (hb:Below w.heap.size w W)=>puntold B pf n kf pe ke limit ((step:Int)+1) p n cap P c W (hp.below hb) (hv.below hb) hn64)
 clear hp her he hv hok hj
 unfold pcfgV
 unfold pjobA at *
 go_enter Tryz.func40,Tryz.ntmps40
 go_wp2_with fail
 generalize hW:World.alloc (World.alloc _ _) _=W0
 obtain⟨hbj,hbc,hbr,hb0,hz0⟩:=uh HB0 W0 hW.symm
 have HBJ:=hde hbj
 have HBC:=hde hbc
 have HBR:=hde hbr
 clear hW HB0 hbj hbc hbr
 refine(uh HU W0 hb0).mono ?_
 rintro e w1 ⟨hb1,sl,rfl,ho1⟩
 obtain⟨pn,kn,hsl,_⟩:=osl ho1
 subst hsl
 have HS0:Hid (S2 W0 _ w1.heap.size W0.heap.size pn kn n P Es c step 0 _):=S2.first (uh HOK).lv hb1 ho1
 obtain⟨na,HNA⟩:∃ na,Hid (Sp.noneK P.al=na):=⟨_,rfl⟩
 rw[uh HNA] at HS0 ⊢
 have hCl:W0.heap.size≤w1.heap.size:=hb1.size
 obtain⟨u0,u1,u2,u3⟩:=cfg3_cells ((hb1.block (w.heap.size+1) (by omega)).trans (uh HBC))
 have hK1:w.heap.size+1 < w1.heap.size:=by omega
 clear hb1 ho1 u3 HU hws
 go_wp2_with fail
 go_loopw [23] (fun i wr=>∃ (k:Nat) (a:Sp.Acc),k≤n∧i = .int .i64 k∧Hid (S2 W0 wr w1.heap.size W0.heap.size pn kn n P Es c step k a)) (fun i _=>n - (intOf i).toNat)
 case atStart=>exact⟨0,_,Nat.zero_le _,rfl,HS0⟩
 case round =>
  clear HS0 u0 u1 u2 hK1
  obtain⟨C,hC⟩:∃ C,w1.heap.size=C:=⟨_,rfl⟩
  rw[hC] at hrel hCl ⊢
  obtain⟨k,a,hk,rfl,HS⟩:=hrel
  have hbB:=(uh HS).bel
  have hzB:=hbB.size
  have hbw:Below w.heap.size w wr:=hb0.trans (hbB.mono (by omega))
  have HOKA:Hid (Sp.AccOk n k a):=Sp.stp_ok (uh HJ) num_i64 (uh HOK) hs k hk a (uh HS).st
  by_cases hlt:k < n
  ·have hltz:(k:Int) < (n:Int):=by omega
   have g0:(0:Int)≤(k:Int):=Int.natCast_nonneg _
   obtain⟨gp,rfl,hgp,d0,d1,d2,d3⟩:=((uh HV).below hbw) k hlt
   obtain⟨u0,u1,u2,_⟩:=cfg3_cells ((hbB.block (w.heap.size+1) (by omega)).trans (uh HBC))
   have hK1:w.heap.size+1 < wr.heap.size:=by omega
   have HPA:=hde (fun W=>pactive step (some ⟨gp,0,none⟩) n cap c.all (c.val.getD k 0) (c.got.getD k 0) (c.inn.getD k 0) (c.rst.getD k false) W hs)
   have HAW:Hid ((step == 0 || (!(c.rst.getD k false) || decide (0 < c.got.getD k 0)))=Sp.awake c k step):=rfl
   rw[uh HAW] at HPA
   obtain⟨aw,HW⟩:∃ aw,Hid (Sp.awake c k step=aw):=⟨_,rfl⟩
   rw[uh HW] at HPA
   unfold pcfgV at HPA
   obtain⟨E,HEE⟩:∃ E,Hid (Sp.env0 c (Sp.outE Es k).length k step=E):=⟨_,rfl⟩
   have HSV:Hid (sightV (E.setO 0) = .agg #[.int .i64 (c.val.getD k 0),.int .i64 (c.inn.getD k 0),.int .i64 (c.got.getD k 0),.int .i64 (step:Int),.int .i64 (k:Int),.int .i64 ((Sp.outE Es k).length:Int),.int .i64 c.all,.int .i64 0,.int .i64 0]):=by show _=_;rw[← uh HEE];rfl
   have HTE:Hid (Sp.turn P Es c k step=Sp.turnE P E (Sp.outE Es k)):=by show _=_;rw[← uh HEE];rfl
   have HEO:Hid (Sp.EvOk E∧E.old=E.value):=by
    have h:=Sp.env0_ok (uh HOK) (deg:=(Sp.outE Es k).length) (i:=k) (step:=step) hlt (by have:=Sp.outE_len Es k;have:=(uh HJ).es;omega) hn64 hs
    rw[uh HEE] at h
    refine⟨h,?_⟩
    rw[← uh HEE];rfl
   have HSK:Hid (aw=false→∀ w',Below wr.heap.size wr w'→S2 W0 w' C W0.heap.size pn kn n P Es c step (k+1) ⟨a.val++[c.val.getD k 0],a.rst++[c.rst.getD k false],a.all,a.sent⟩):=fun ha w' hb=>(uh HS).skip (uh HOKA) (uh HOK) hlt (by rw[uh HW];exact ha) hb hbB.size
   generalize c.val.getD k 0=x0 at *
   generalize c.rst.getD k false=x1 at *
   generalize c.got.getD k 0=x2 at *
   generalize c.inn.getD k 0=x3 at *
   go_wp2_with fail
   generalize hV1:World.alloc _ _=V1
   have hbV:Below wr.heap.size wr V1:=by rw[← hV1];exact(Below.refl _ _).alloc nlr _
   have hvb1:V1.heap[wr.heap.size]? = some (.cells #[.int .i64 x0,.bool x1,.int .i64 x2,.int .i64 x3] 131 (0,0)):=by rw[← hV1];exact heap_alloc_new wr _
   clear hV1 d0 d1 d2 d3 u0 u1 u2
   refine(uh HPA V1).mono ?_
   rintro e w2 ⟨rfl,hb2⟩
   have hbr2:Below wr.heap.size wr w2:=hbV.trans (hb2.mono hbV.size)
   have hvb2:=(hb2.block wr.heap.size (Array.getElem?_eq_some_iff.1 hvb1).1).trans hvb1
   cases aw with
   | false =>
    have HS2:=hde (uh HSK rfl w2 hbr2)
    clear HPA hbV hvb1 hb2 hbr2 hvb2
    go_wp2
    go_roundw
    case rel=>exact⟨k+1,_,by omega,by go_num,HS2⟩
    case measure=>simp[intOf];omega
   | true =>
    have hbB2:Below W0.heap.size W0 w2:=hbB.trans (hbr2.mono hbB.size)
    have hz2:=hbr2.size
    have hvl:=(Array.getElem?_eq_some_iff.1 hvb2).1
    have v0:w2.cell? ⟨wr.heap.size,0,none⟩=some (.int .i64 x0):=by simp[World.cell?,hvb2]
    have v2:w2.cell? ⟨wr.heap.size,2,none⟩=some (.int .i64 x2):=by simp[World.cell?,hvb2]
    have v3:w2.cell? ⟨wr.heap.size,3,none⟩=some (.int .i64 x3):=by simp[World.cell?,hvb2]
    obtain⟨u0,u1,u2,_⟩:=cfg3_cells ((hbB2.block (w.heap.size+1) (by omega)).trans (uh HBC))
    obtain⟨j0,j1,j2,j3⟩:=job4_cells (B:=B) (pf:=pf) (n:=n) (kf:=kf) (pe:=pe) (ke:=ke) (limit:=limit) ((hbB2.block w.heap.size (by omega)).trans (uh HBJ))
    have hbw2:Below w.heap.size w w2:=hb0.trans (hbB2.mono (by omega))
    obtain⟨D,pes,ces,hpe,hD,dc,hea⟩:=((uh HE).below hbw2) k hlt
    have HEA:=hde hea
    rw[hpe] at j2
    have HS2:Hid (PCN w2 C W0.heap.size pn kn n ((step:Int)+1) a.all (a.val++c.val.drop k) (a.rst++c.rst.drop k) ((List.range n).map (Sp.gotOf a.sent)) ((List.range n).map (Sp.innOf P a.sent))):=(uh HS).pc.below hbr2
    have hn256:(Sp.outE Es k).length≤256:=by have:=Sp.outE_len Es k;have:=(uh HJ).es;omega
    obtain⟨dl,HDL⟩:∃ dl,Hid ((Sp.outE Es k).length=dl):=⟨_,rfl⟩
    rw[uh HDL] at dc HSV hn256
    have hCl2:C < w2.heap.size:=(uh HS2).lt
    clear HPA hbV hvb1 hb2 hbr2 hvb2 hea hpe j1 j3 u1 HSK
    go_upto_region 6 with fail
    apply wp_joinR (fun w'=>w'=(w2.alloc (.cells #[.int .i64 x0,.int .i64 x3,.int .i64 x2,.int .i64 (step:Int),.int .i64 (k:Int),.int .i64 (dl:Int),.int .i64 c.all,.int .i64 0,.int .i64 0] 184)).drew)
    apply Exists.intro
    apply And.intro
    case left =>
     go_region_held3 (fun w'=>w'.cell? ⟨wr.heap.size,0,none⟩=some (.int .i64 x0)∧w'.cell? ⟨wr.heap.size,2,none⟩=some (.int .i64 x2)∧w'.cell? ⟨wr.heap.size,3,none⟩=some (.int .i64 x3)∧w'.cell? ⟨w.heap.size+1,0,none⟩=some (.int .i64 (step:Int))∧w'.cell? ⟨w.heap.size+1,2,none⟩=some (.int .i64 c.all)∧w'.cell? ⟨w.heap.size,2,none⟩=some (.slice (some ⟨D,0,none⟩) n ke)∧w'.cell? ⟨D,k,none⟩=some (.slice pes dl ces))
      (first | (go_keep;done))
      (first | fail)
     exact⟨rfl,rfl,rfl⟩
    case right =>
    rintro w3 hw3
    have hbS:Below w2.heap.size w2 w3:=by rw[hw3];exact((Below.refl _ _).alloc nlr _).drew
    have hsb:w3.heap[w2.heap.size]? = some (.cells #[.int .i64 x0,.int .i64 x3,.int .i64 x2,.int .i64 (step:Int),.int .i64 (k:Int),.int .i64 (dl:Int),.int .i64 c.all,.int .i64 0,.int .i64 0] 184 (0,0)):=by rw[hw3];exact heap_alloc_new w2 _
    have hsl:=(Array.getElem?_eq_some_iff.1 hsb).1
    have s0:w3.cell? ⟨w2.heap.size,0,none⟩=some (.int .i64 x0):=by simp[World.cell?,hsb]
    have s1:w3.cell? ⟨w2.heap.size,1,none⟩=some (.int .i64 x3):=by simp[World.cell?,hsb]
    have s2:w3.cell? ⟨w2.heap.size,2,none⟩=some (.int .i64 x2):=by simp[World.cell?,hsb]
    have s3:w3.cell? ⟨w2.heap.size,3,none⟩=some (.int .i64 (step:Int)):=by simp[World.cell?,hsb]
    have s4:w3.cell? ⟨w2.heap.size,4,none⟩=some (.int .i64 (k:Int)):=by simp[World.cell?,hsb]
    have s5:w3.cell? ⟨w2.heap.size,5,none⟩=some (.int .i64 (dl:Int)):=by simp[World.cell?,hsb]
    have s6:w3.cell? ⟨w2.heap.size,6,none⟩=some (.int .i64 c.all):=by simp[World.cell?,hsb]
    have s7:w3.cell? ⟨w2.heap.size,7,none⟩=some (.int .i64 0):=by simp[World.cell?,hsb]
    have s8:w3.cell? ⟨w2.heap.size,8,none⟩=some (.int .i64 0):=by simp[World.cell?,hsb]
    have hbB3:Below W0.heap.size W0 w3:=hbB2.trans (hbS.mono hbB2.size)
    have hbw3:Below w.heap.size w w3:=hb0.trans (hbB3.mono (by omega))
    have hz3:=hbS.size
    have HS3:=hde ((uh HS2).below hbS)
    have j0':=(hbS.cell (p:=⟨w.heap.size,0,none⟩) (by show w.heap.size < _;omega)).trans j0
    have j2':=(hbS.cell (p:=⟨w.heap.size,2,none⟩) (by show w.heap.size < _;omega)).trans j2
    have dc':=(hbS.cell (p:=⟨D,k,none⟩) hD).trans dc
    have HEA3:=hde ((uh HEA).below hbS)
    have hD3:D < w3.heap.size:=by omega
    have hJ3:w.heap.size < w3.heap.size:=by omega
    have HKS:Hid (∀ W,Below w3.heap.size w3 W→W.cell? ⟨w.heap.size,0,none⟩=some (.pointer (some ⟨B,0,none⟩))∧W.cell? ⟨w.heap.size,2,none⟩=some (.slice (some ⟨D,0,none⟩) n ke)∧W.cell? ⟨D,k,none⟩=some (.slice pes dl ces)∧W.cell? ⟨w2.heap.size,0,none⟩=some (.int .i64 x0)∧W.cell? ⟨w2.heap.size,1,none⟩=some (.int .i64 x3)∧W.cell? ⟨w2.heap.size,2,none⟩=some (.int .i64 x2)∧W.cell? ⟨w2.heap.size,3,none⟩=some (.int .i64 (step:Int))∧W.cell? ⟨w2.heap.size,4,none⟩=some (.int .i64 (k:Int))∧W.cell? ⟨w2.heap.size,5,none⟩=some (.int .i64 (dl:Int))∧W.cell? ⟨w2.heap.size,6,none⟩=some (.int .i64 c.all)∧W.cell? ⟨w2.heap.size,7,none⟩=some (.int .i64 0)∧W.cell? ⟨w2.heap.size,8,none⟩=some (.int .i64 0)):=fun W hW=>⟨(hW.cell (p:=⟨w.heap.size,0,none⟩) hJ3).trans j0',(hW.cell (p:=⟨w.heap.size,2,none⟩) hJ3).trans j2',(hW.cell (p:=⟨D,k,none⟩) hD3).trans dc',(hW.cell (p:=⟨w2.heap.size,0,none⟩) hsl).trans s0,(hW.cell (p:=⟨w2.heap.size,1,none⟩) hsl).trans s1,(hW.cell (p:=⟨w2.heap.size,2,none⟩) hsl).trans s2,(hW.cell (p:=⟨w2.heap.size,3,none⟩) hsl).trans s3,(hW.cell (p:=⟨w2.heap.size,4,none⟩) hsl).trans s4,(hW.cell (p:=⟨w2.heap.size,5,none⟩) hsl).trans s5,(hW.cell (p:=⟨w2.heap.size,6,none⟩) hsl).trans s6,(hW.cell (p:=⟨w2.heap.size,7,none⟩) hsl).trans s7,(hW.cell (p:=⟨w2.heap.size,8,none⟩) hsl).trans s8⟩
    have HTU:Hid (∀ W,Below w3.heap.size w3 W→Calls Tryz.prog 72 #[.pointer (some ⟨B,0,none⟩),.agg #[.int .i64 x0,.int .i64 x3,.int .i64 x2,.int .i64 (step:Int),.int .i64 (k:Int),.int .i64 (dl:Int),.int .i64 c.all,.int .i64 0,.int .i64 0],.slice pes dl ces] W (TPost (Sp.turn P Es c k step) W)):=by
     show ∀ W,_
     intro W hW
     have hwW:=hbw3.trans (hW.mono hbw3.size)
     have h:=turn_any B P E 0 (Sp.outE Es k) pes ces z f W ((uh HP).below hwW) ((uh HR).below hwW) (uh HEO).1 (uh HEO).2 ((uh HEA3).below hW) (fun x hx=>((uh HJ).ed x (List.mem_filter.1 hx).1).2.2) (by have:=uh HDL;omega)
     rw[uh HSV,uh HDL,← uh HTE] at h
     exact h
    have HEN:Hid (∀ (args:Array Value) (w:World),(callFunc 72 args).run Tryz.prog w = .ok (.enter 72 args) w):=cfe Tryz.func72 (by kernel_rfl) (by kernel_rfl)
    obtain⟨o,HTO⟩:∃ o,Hid (Sp.turn P Es c k step=o):=⟨_,rfl⟩
    rw[uh HTO] at HTU
    clear hw3 v0 v2 v3 u0 u2 j0 j2 dc HS2 hsb hbS HEA
    go_upto_region 7 with fail
    cases o with
    | none =>
     apply wp_join1 (fun u w'=>Hid (Below w3.heap.size w3 w'))
     apply Exists.intro
     apply And.intro
     case left =>
      go_region_held3 (fun w'=>w'.cell? ⟨w.heap.size,0,none⟩=some (.pointer (some ⟨B,0,none⟩))∧w'.cell? ⟨w.heap.size,2,none⟩=some (.slice (some ⟨D,0,none⟩) n ke)∧w'.cell? ⟨D,k,none⟩=some (.slice pes dl ces)∧w'.cell? ⟨w2.heap.size,0,none⟩=some (.int .i64 x0)∧w'.cell? ⟨w2.heap.size,1,none⟩=some (.int .i64 x3)∧w'.cell? ⟨w2.heap.size,2,none⟩=some (.int .i64 x2)∧w'.cell? ⟨w2.heap.size,3,none⟩=some (.int .i64 (step:Int))∧w'.cell? ⟨w2.heap.size,4,none⟩=some (.int .i64 (k:Int))∧w'.cell? ⟨w2.heap.size,5,none⟩=some (.int .i64 (dl:Int))∧w'.cell? ⟨w2.heap.size,6,none⟩=some (.int .i64 c.all)∧w'.cell? ⟨w2.heap.size,7,none⟩=some (.int .i64 0)∧w'.cell? ⟨w2.heap.size,8,none⟩=some (.int .i64 0))
       (first | (exact uh HKS _ (by first | assumption | exact(Below.refl _ _).drew | exact(Below.refl _ _).drew.alloc nlr _ | exact hbq.alloc hbq.size _ | exact(((hbq.setCell (p:=⟨w3.heap.size,0,none⟩) nlr _).setCell (p:=⟨w3.heap.size,1,none⟩) nlr _).setCell (p:=⟨w3.heap.size,2,none⟩) nlr _).setCell (p:=⟨w3.heap.size,3,none⟩) nlr _)) | (go_keep;done))
       (first | (go_at_call 72;refine(uh HTU _ (by first | exact Below.refl _ _ | exact(Below.refl _ _).drew | exact(Below.refl _ _).drew.alloc nlr _ | exact(Below.refl _ _).alloc nlr _)).mono ?_;rintro e wq ⟨hbq0,rfl⟩;have hbq:Below w3.heap.size w3 wq:=(by first | exact(Below.refl _ _).drew.trans (hbq0.mono nlr) | exact((Below.refl _ _).drew.alloc nlr _).trans (hbq0.mono (by simp)) | exact hbq0);have HBQ:=hde hbq;try (have hTz:wq.heap[w3.heap.size]? = some (.cells #[.int .i64 0,.slice none 0 0,.bool false,.int .i64 0] 186 (0,0)):=(hbq0.block _ (by simp)).trans (heap_alloc_new w3.drew _);have tz0:wq.cell? ⟨w3.heap.size,0,none⟩=some (.int .i64 0):=(by simp[World.cell?,hTz]);have tf0:wq.frozen? ⟨w3.heap.size,0,none⟩=false:=(by simp[World.frozen?,hTz]);have tz1:wq.cell? ⟨w3.heap.size,1,none⟩=some (.slice none 0 0):=(by simp[World.cell?,hTz]);have tf1:wq.frozen? ⟨w3.heap.size,1,none⟩=false:=(by simp[World.frozen?,hTz]);have tz2:wq.cell? ⟨w3.heap.size,2,none⟩=some (.bool false):=(by simp[World.cell?,hTz]);have tf2:wq.frozen? ⟨w3.heap.size,2,none⟩=false:=(by simp[World.frozen?,hTz]);have tz3:wq.cell? ⟨w3.heap.size,3,none⟩=some (.int .i64 0):=(by simp[World.cell?,hTz]);have tf3:wq.frozen? ⟨w3.heap.size,3,none⟩=false:=(by simp[World.frozen?,hTz]);have HTZ:=hde hTz;clear hTz);clear hbq0))
      all_goals
       first
        | (have h1:=(uh HBQ).alloc (uh HBQ).size (.cells #[.int .i64 0,.slice none 0 0,.bool false,.int .i64 0] 186)
           generalize Value.pointer (some ⟨wq.heap.size,0,none⟩)=u
           first
            | exact⟨rfl,u,rfl,h1⟩
            | exact⟨rfl,u,rfl,h1.drew⟩)
        | (have h1:=((((uh HBQ).setCell (p:=⟨w3.heap.size,0,none⟩) nlr (.int .i64 0)).setCell (p:=⟨w3.heap.size,1,none⟩) nlr (.slice none 0 0)).setCell (p:=⟨w3.heap.size,2,none⟩) nlr (.bool false)).setCell (p:=⟨w3.heap.size,3,none⟩) nlr (.int .i64 0)
           generalize Value.pointer (some ⟨w3.heap.size,0,none⟩)=u
           first
            | exact⟨rfl,u,rfl,h1⟩
            | exact⟨rfl,u,rfl,h1.drew⟩)
        | trace_state
     case right =>
     rintro u w4 HB4
     have HST:Hid (Sp.stp P Es c step n = .error k):=by
      have h:=Sp.stp_err (n - (k+1)) (k+1) (Sp.stp_bad (uh HS).st (uh HW) (uh HTO))
      rw[show k+1+(n - (k+1))=n by omega] at h
      exact h
     have hbB4:Below W0.heap.size W0 w4:=hbB3.trans ((uh HB4).mono hbB3.size)
     have hR4:w4.heap[w.heap.size+1+1]? = _:=(hbB4.block (w.heap.size+1+1) (by omega)).trans (uh HBR)
     have r0:w4.cell? ⟨w.heap.size+1+1,0,none⟩=some (.int .i64 0):=by simp[World.cell?,hR4]
     have rf0:w4.frozen? ⟨w.heap.size+1+1,0,none⟩=false:=by simp[World.frozen?,hR4]
     have r1:w4.cell? ⟨w.heap.size+1+1,1,none⟩=some (.slice none 0 0):=by simp[World.cell?,hR4]
     have rf1:w4.frozen? ⟨w.heap.size+1+1,1,none⟩=false:=by simp[World.frozen?,hR4]
     have r2:w4.cell? ⟨w.heap.size+1+1,2,none⟩=some (.int .i64 0):=by simp[World.cell?,hR4]
     have rf2:w4.frozen? ⟨w.heap.size+1+1,2,none⟩=false:=by simp[World.frozen?,hR4]
     have HFN:Hid (O (.returned (.tuple #[.agg #[.int .i64 0,.slice none 0 0,.int .i64 0],.int .i64 k,.bool false])) (pset3 w4 (w.heap.size+1+1) (.int .i64 0) (.slice none 0 0) (.int .i64 0))):=by
      show O _ _
      rw[← uh hO,uh HST]
      exact⟨below_pset3 (hb0.trans (hbB4.mono (by omega))) (by omega) _ _ _,rfl⟩
     clear s0 s1 s2 s3 s4 s5 s6 s7 s8 j0' j2' dc' hR4
     go_wp2
     exact bodyPost_ret (v := .tuple #[.agg #[.int .i64 0,.slice none 0 0,.int .i64 0],.int .i64 k,.bool false]) (by simp[results,Tryz.results40,go_sem,r0,r1,r2]) rfl (uh HFN)
    | some t =>
     have HTK:Hid (Sp.TnOk n t):=Sp.turn_ok (uh HJ) num_i64 (uh HOK) hlt hs (uh HTO)
     obtain⟨m,HM⟩:∃ m,Hid (t.sent.length=m):=⟨_,rfl⟩
     apply wp_joinV2 (fun v u w'=>∃ T,u = .pointer (some ⟨T,0,none⟩)∧Hid (w'.heap[T]? = some (.cells #[.int .i64 t.value,v,.bool t.rests,.int .i64 t.give] 186 (0,0)))∧Hid (w'.ownsRow w3.heap.size 2 1 v t.sent.length (t.sent.map fun m=>Value.int .i64 m.2))∧Hid (Below w3.heap.size w3 w'))
     apply Exists.intro
     apply And.intro
     case left =>
      go_region_held3 (fun w'=>w'.cell? ⟨w.heap.size,0,none⟩=some (.pointer (some ⟨B,0,none⟩))∧w'.cell? ⟨w.heap.size,2,none⟩=some (.slice (some ⟨D,0,none⟩) n ke)∧w'.cell? ⟨D,k,none⟩=some (.slice pes dl ces)∧w'.cell? ⟨w2.heap.size,0,none⟩=some (.int .i64 x0)∧w'.cell? ⟨w2.heap.size,1,none⟩=some (.int .i64 x3)∧w'.cell? ⟨w2.heap.size,2,none⟩=some (.int .i64 x2)∧w'.cell? ⟨w2.heap.size,3,none⟩=some (.int .i64 (step:Int))∧w'.cell? ⟨w2.heap.size,4,none⟩=some (.int .i64 (k:Int))∧w'.cell? ⟨w2.heap.size,5,none⟩=some (.int .i64 (dl:Int))∧w'.cell? ⟨w2.heap.size,6,none⟩=some (.int .i64 c.all)∧w'.cell? ⟨w2.heap.size,7,none⟩=some (.int .i64 0)∧w'.cell? ⟨w2.heap.size,8,none⟩=some (.int .i64 0))
       (first | (exact uh HKS _ (by first | assumption | exact(Below.refl _ _).drew | exact(Below.refl _ _).drew.alloc nlr _ | exact hbq.alloc hbq.size _ | exact(((hbq.setCell (p:=⟨w3.heap.size,0,none⟩) nlr _).setCell (p:=⟨w3.heap.size,1,none⟩) nlr _).setCell (p:=⟨w3.heap.size,2,none⟩) nlr _).setCell (p:=⟨w3.heap.size,3,none⟩) nlr _)) | (go_keep;done))
       (first | (go_at_call 72;refine(uh HTU _ (by first | exact Below.refl _ _ | exact(Below.refl _ _).drew | exact(Below.refl _ _).drew.alloc nlr _ | exact(Below.refl _ _).alloc nlr _)).mono ?_;rintro e wq ⟨hbq0,v,rfl,hov⟩;obtain⟨pm,km,hpk,_⟩:=osl hov;rw[uh HM] at hpk;subst hpk;have hbq:Below w3.heap.size w3 wq:=(by first | exact(Below.refl _ _).drew.trans (hbq0.mono nlr) | exact((Below.refl _ _).drew.alloc nlr _).trans (hbq0.mono (by simp)) | exact hbq0);have HBQ:=hde hbq;have HOV:=hde hov;try (have hTz:wq.heap[w3.heap.size]? = some (.cells #[.int .i64 0,.slice none 0 0,.bool false,.int .i64 0] 186 (0,0)):=(hbq0.block _ (by simp)).trans (heap_alloc_new w3.drew _);have tz0:wq.cell? ⟨w3.heap.size,0,none⟩=some (.int .i64 0):=(by simp[World.cell?,hTz]);have tf0:wq.frozen? ⟨w3.heap.size,0,none⟩=false:=(by simp[World.frozen?,hTz]);have tz1:wq.cell? ⟨w3.heap.size,1,none⟩=some (.slice none 0 0):=(by simp[World.cell?,hTz]);have tf1:wq.frozen? ⟨w3.heap.size,1,none⟩=false:=(by simp[World.frozen?,hTz]);have tz2:wq.cell? ⟨w3.heap.size,2,none⟩=some (.bool false):=(by simp[World.cell?,hTz]);have tf2:wq.frozen? ⟨w3.heap.size,2,none⟩=false:=(by simp[World.frozen?,hTz]);have tz3:wq.cell? ⟨w3.heap.size,3,none⟩=some (.int .i64 0):=(by simp[World.cell?,hTz]);have tf3:wq.frozen? ⟨w3.heap.size,3,none⟩=false:=(by simp[World.frozen?,hTz]);have HTZ:=hde hTz;clear hTz);clear hbq0 hov))
      all_goals
       first
        | (have h1:=(uh HBQ).alloc (uh HBQ).size (.cells #[.int .i64 t.value,.slice pm m km,.bool t.rests,.int .i64 t.give] 186)
           have h2:=heap_alloc_new wq (.cells #[.int .i64 t.value,.slice pm m km,.bool t.rests,.int .i64 t.give] 186)
           have h3:=(own_low (uh HOV) (B:=w3.heap.size) (by simp)).alloc (.cells #[.int .i64 t.value,.slice pm m km,.bool t.rests,.int .i64 t.give] 186)
           clear HOV
           generalize hu:Value.pointer (some ⟨wq.heap.size,0,none⟩)=u
           generalize Value.slice pm m km=v at *
           first
            | exact⟨rfl,v,u,rfl,wq.heap.size,hu.symm,h2,h3,h1⟩
            | exact⟨rfl,v,u,rfl,wq.heap.size,hu.symm,h2,h3.drew,h1.drew⟩)
        | (have h1:=((((uh HBQ).setCell (p:=⟨w3.heap.size,0,none⟩) nlr (.int .i64 t.value)).setCell (p:=⟨w3.heap.size,1,none⟩) nlr (.slice pm m km)).setCell (p:=⟨w3.heap.size,2,none⟩) nlr (.bool t.rests)).setCell (p:=⟨w3.heap.size,3,none⟩) nlr (.int .i64 t.give)
           have h2:=rset4_blk (uh HTZ) (.int .i64 t.value) (.slice pm m km) (.bool t.rests) (.int .i64 t.give)
           have o':∀ {W:World} (j:Nat) (q:Value),W.ownsRow (w3.heap.size+1) 2 1 (.slice pm m km) t.sent.length (t.sent.map fun m=>Value.int .i64 m.2)→(W.setCell ⟨w3.heap.size,j,none⟩ q).ownsRow (w3.heap.size+1) 2 1 (.slice pm m km) t.sent.length (t.sent.map fun m=>Value.int .i64 m.2):=fun j q h=>ownsRow_setCell_below h (a:=⟨w3.heap.size,j,none⟩) (Nat.lt_succ_self _) q
           have h3:=own_low (o' 3 (.int .i64 t.give) (o' 2 (.bool t.rests) (o' 1 (.slice pm m km) (o' 0 (.int .i64 t.value) (own_low (uh HOV) (by simp)))))) (B:=w3.heap.size) (Nat.le_succ _)
           clear HOV o'
           unfold rset4 at h2
           generalize hu:Value.pointer (some ⟨w3.heap.size,0,none⟩)=u
           generalize Value.slice pm m km=v at *
           first
            | exact⟨rfl,v,u,rfl,w3.heap.size,hu.symm,h2,h3,h1⟩
            | exact⟨rfl,v,u,rfl,w3.heap.size,hu.symm,h2,h3.drew,h1.drew⟩)
        | trace_state
     case right =>
     rintro v u w4 ⟨T,rfl,HTB,HOV,HB4⟩
     obtain⟨pm,km,hpk,_⟩:=osl (uh HOV)
     rw[uh HM] at hpk
     subst hpk
     have hbB4:Below W0.heap.size W0 w4:=hbB3.trans ((uh HB4).mono hbB3.size)
     have hz4:=(uh HB4).size
     obtain⟨g,rfl,hgB,hgl⟩:=(uh HS3).form (by omega)
     have HPC:=hde ((uh HS3).below (uh HB4)).pcs
     have hC3:=(uh HS3).lt
     have HAP:Hid (Calls Tryz.prog 73 #[.agg #[.pointer (some ⟨B,0,none⟩),.slice pf n kf,.slice pe n ke,.int .i64 limit],.agg #[.int .i64 t.value,.slice pm m km,.bool t.rests,.int .i64 t.give],.int .i64 k,.pointer (some ⟨C,0,none⟩)] w4 (PAPost P C W0.heap.size g kn n ((step:Int)+1) a.all (a.val++c.val.drop k) (a.rst++c.rst.drop k) a.sent t k w4)):=
      papply B pf n kf pe ke limit P Es t k (.slice pm m km) C W0.heap.size g kn w3.heap.size ((step:Int)+1) a.all (a.val++c.val.drop k) (a.rst++c.rst.drop k) a.sent W0 w4 ((uh HP).below hb0) ((uh HE).below hb0) hbB4 hlt hn64 (uh HPC) hCl nlr (by rw[List.length_append,(uh HOKA).lv,List.length_drop,(uh HOK).lv];omega) (by rw[List.length_append,(uh HOKA).lr,List.length_drop,(uh HOK).lr];omega) (by have h1:=(uh HOKA).l;have h2:k * 256≤64 * 256:=Nat.mul_le_mul_right _ (by omega);omega) (uh HOV) hC3 hgl (Sp.turn_to (uh HTO)) (uh HTK) (by have:=uh HDL;omega)
     obtain⟨i0,i1,i2,i3⟩:=job4_cells (B:=B) (pf:=pf) (n:=n) (kf:=kf) (pe:=pe) (ke:=ke) (limit:=limit) ((hbB4.block w.heap.size (by omega)).trans (uh HBJ))
     have t0:w4.cell? ⟨T,0,none⟩=some (.int .i64 t.value):=by simp[World.cell?,uh HTB]
     have t1:w4.cell? ⟨T,1,none⟩=some (.slice pm m km):=by simp[World.cell?,uh HTB]
     have t2:w4.cell? ⟨T,2,none⟩=some (.bool t.rests):=by simp[World.cell?,uh HTB]
     have t3:w4.cell? ⟨T,3,none⟩=some (.int .i64 t.give):=by simp[World.cell?,uh HTB]
     clear s0 s1 s2 s3 s4 s5 s6 s7 s8 j0' j2' dc' HTB HOV HPC
     go_wp2_with fail
     refine(uh HAP).mono ?_
     rintro e w5 ⟨rfl,hsv,hpc⟩
     have HS5:Hid (S2 W0 w5 C W0.heap.size (some ⟨g,0,none⟩) kn n P Es c step (k+1) _):=S2.turn (uh HS).st (uh HOKA) (uh HOK) hlt (uh HW) (uh HTO) hpc (hbB4.trans (hsv.below hCl hgB hbB4.size))
     clear hsv hpc HAP i0 i1 i2 i3 t0 t1 t2 t3
     go_wp2
     go_roundw
     case rel=>exact⟨k+1,_,by omega,by go_num,HS5⟩
     case measure=>simp[intOf];omega
  ·have hltz:¬ (k:Int) < (n:Int):=by omega
   have hkn:k=n:=by omega
   have x0:=(uh HS).pc.c0
   have x1:=(uh HS).pc.c1
   have x2:=(uh HS).pc.c2
   have hR4:wr.heap[w.heap.size+1+1]? = _:=(hbB.block (w.heap.size+1+1) (by omega)).trans (uh HBR)
   have r0:wr.cell? ⟨w.heap.size+1+1,0,none⟩=some (.int .i64 0):=by simp[World.cell?,hR4]
   have rf0:wr.frozen? ⟨w.heap.size+1+1,0,none⟩=false:=by simp[World.frozen?,hR4]
   have r1:wr.cell? ⟨w.heap.size+1+1,1,none⟩=some (.slice none 0 0):=by simp[World.cell?,hR4]
   have rf1:wr.frozen? ⟨w.heap.size+1+1,1,none⟩=false:=by simp[World.frozen?,hR4]
   have r2:wr.cell? ⟨w.heap.size+1+1,2,none⟩=some (.int .i64 0):=by simp[World.cell?,hR4]
   have rf2:wr.frozen? ⟨w.heap.size+1+1,2,none⟩=false:=by simp[World.frozen?,hR4]
   have HFN:Hid (O (.returned (.tuple #[.agg #[.int .i64 ((step:Int)+1),.slice pn n kn,.int .i64 a.all],.int .i64 0,.bool true])) (pset3 wr (w.heap.size+1+1) (.int .i64 ((step:Int)+1)) (.slice pn n kn) (.int .i64 a.all))):=by
    show O _ _
    have hst:=(uh HS).st
    rw[hkn] at hst
    rw[← uh hO,hst]
    refine⟨below_pset3 hbw (by omega) _ _ _,_,rfl,?_⟩
    have h1:=(uh HS).pc.o
    rw[hkn,List.drop_of_length_le (by rw[(uh HOK).lv];exact Nat.le_refl _),List.drop_of_length_le (by rw[(uh HOK).lr];exact Nat.le_refl _),List.append_nil,List.append_nil] at h1
    exact own_low (own_pset3 h1 (R:=w.heap.size+1+1) (by omega) _ _ _) (by omega)
   clear hR4
   go_wp2
   exact bodyPost_ret (v := .tuple #[.agg #[.int .i64 ((step:Int)+1),.slice pn n kn,.int .i64 a.all],.int .i64 0,.bool true]) (by simp[results,Tryz.results40,go_sem,r0,r1,r2]) rfl (uh HFN)
end Go.Proofs.YteflnddphpjahaaGreatDoor
