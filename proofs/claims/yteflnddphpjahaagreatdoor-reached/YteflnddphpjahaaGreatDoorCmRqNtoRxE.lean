import Derived.Test.YteflnddphpjahaaGreatDoorCmRqGtoRsD
import Derived.Test.YteflnddphpjahaaGreatDoorCmRxBtoCqT
import Derived.Test.YteflnddphpjahaaGreatDoorCmRsCtoRnQ
import Derived.Laws.BytesArg
import Derived.Deep.DeepMust
import Derived.Deep.DeepCutAuto
import Derived.BigQuiet
set_option linter.unusedVariables false
set_option linter.unusedSimpArgs false
set_option maxRecDepth 100000
set_option maxHeartbeats 16000000
namespace Go.Proofs.YteflnddphpjahaaGreatDoor
open Go.RowKit
theorem pshow (a:Int) (q:Option Addr) (m k:Nat) (b:Int) (w:World):Calls Tryz.prog 26 #[.agg #[.int .i64 a,.slice q m k,.int .i64 b]] w fun e w'=>e = .returned (.tuple #[])∧Below w.heap.size w w':=by
 have hb:Below w.heap.size w (w.alloc (.cells #[.int .i64 a,.slice q m k,.int .i64 b] 91)):=(Below.refl _ _).alloc nlr _
 generalize hO:(fun (e:Ending) (w':World)=>e=Ending.returned (Value.tuple #[])∧Below w.heap.size w w')=O
 have HFN:Hid (O (.returned (.tuple #[])) (w.alloc (.cells #[.int .i64 a,.slice q m k,.int .i64 b] 91))):=by
  show O _ _
  rw[← hO]
  exact⟨rfl,hb⟩
 clear hO hb
 go_enter Tryz.func26,Tryz.ntmps26
 go_wp2
 first | exact uh HFN | exact bodyPost_ret (v := .tuple #[]) (by simp[results,Tryz.results26,go_sem]) rfl (uh HFN)
def SRPost (g p:ByteArray) (limit:Int) (w:World) (e:Ending) (w':World):Prop :=
 Below w.heap.size w w'∧Small g∧∃ v,e = .returned (.tuple #[.agg #[.int .u8 (resOf g p limit).outcome,.int .i64 (resOf g p limit).step,.int .i64 (resOf g p limit).vertex,v],.int .i64 (askE g p limit)])∧w'.ownsRow w.heap.size 2 1 v (resOf g p limit).vals.length ((resOf g p limit).vals.map (Value.int .i64))
theorem sr_err {g p:ByteArray} {limit:Int} {w w':World} {a:Int} (h:askE g p limit=a) (ha:a≠0) (hb:Below w.heap.size w w') (hs:Small g):SRPost g p limit w (.returned (.tuple #[.agg #[.int .u8 0,.int .i64 0,.int .i64 0,.slice none 0 0],.int .i64 a])) w':=by
 have hr:resOf g p limit=⟨0,0,0,[]⟩:=by unfold resOf;rw[if_neg (by rw[h];exact ha)]
 exact⟨hb,hs,.slice none 0 0,by rw[hr,h];rfl,by rw[hr];exact World.ownsRow_nil _ _ _ _⟩
theorem begin_vx {w:World} {B n:Nat} {sl:Value} {P:Sp.Pg} {vs:List Int} (hl:vs.length=n) (h:w.ownsRow B 131 4 sl n (vxC vs [] [] (List.replicate n (Sp.noneK P.by')) n)):∃ p cap,sl = .slice p n cap∧VxAt w p (Sp.first' P vs) n:=by
 obtain⟨p,cap,hv,hx⟩:=vx_of_own (all:=Sp.noneK P.al) h
 refine⟨p,cap,hv,hx.congr (fun k _=>rfl) (fun k hk=>?_) (fun k hk=>?_) (fun k hk=>?_)⟩
 ·show (List.replicate vs.length false).getD k false=_
  rw[List.getD_eq_getElem?_getD,List.getElem?_replicate,if_pos (by omega)];rfl
 ·show (List.replicate vs.length (0:Int)).getD k 0=_
  rw[List.getD_eq_getElem?_getD,List.getElem?_replicate,if_pos (by omega)];rfl
 ·show (List.replicate vs.length (Sp.noneK P.by')).getD k 0=_
  rw[hl]
theorem srun_any (g p:ByteArray) (limit:Int) (z f:Addr) (w:World) (hT:Lib.Utf8Tabs 3 4 w) (hC:CompEnv w) (her:Errs w z f):Calls Tryz.prog 12 #[.string g,.string p,.int .i64 limit] w (SRPost g p limit w):=by
 generalize hO:SRPost g p limit w=O
 replace hO:=hde hO
 have hb0:Below w.heap.size w (w.alloc (.cells #[.int .u8 0,.int .i64 0,.int .i64 0,.slice none 0 0] 44)):=(Below.refl _ _).alloc nlr _
 have hR0:=heap_alloc_new w (.cells #[.int .u8 0,.int .i64 0,.int .i64 0,.slice none 0 0] 44)
 have hz0:=World.size_alloc w (.cells #[.int .u8 0,.int .i64 0,.int .i64 0,.slice none 0 0] 44)
 have HRD:=hde (fun W (hb:Below w.heap.size w W)=>pread g p W (tabs_below hT hb) (hC.below hb))
 have HER:=hde her
 clear hT hC her
 go_enter Tryz.func12,Tryz.ntmps12
 go_wp2_with fail
 generalize hW:World.alloc _ _=W0 at *
 refine(uh HRD W0 hb0).mono ?_
 rintro e w1 ⟨hb1,hsm,p0,n0,k0,p1,n1,k1,p2,n2,k2,pv,rfl,hok⟩
 have HSM:=hde hsm
 have HOK:=hde hok
 obtain⟨ra,HRA⟩:∃ ra,Hid (readE g p=ra):=⟨_,rfl⟩
 rw[uh HRA]
 have hbw1:Below w.heap.size w w1:=hb0.trans (hb1.mono hb0.size)
 have hR1:=(hb1.block w.heap.size (by omega)).trans hR0
 have hz1:=hb1.size
 have hHl:w.heap.size < w1.heap.size:=by omega
 have r0:w1.cell? ⟨w.heap.size,0,none⟩=some (.int .u8 0):=(by simp[World.cell?,hR1])
 have rf0:w1.frozen? ⟨w.heap.size,0,none⟩=false:=(by simp[World.frozen?,hR1])
 have r1:w1.cell? ⟨w.heap.size,1,none⟩=some (.int .i64 0):=(by simp[World.cell?,hR1])
 have rf1:w1.frozen? ⟨w.heap.size,1,none⟩=false:=(by simp[World.frozen?,hR1])
 have r2:w1.cell? ⟨w.heap.size,2,none⟩=some (.int .i64 0):=(by simp[World.cell?,hR1])
 have rf2:w1.frozen? ⟨w.heap.size,2,none⟩=false:=(by simp[World.frozen?,hR1])
 have r3:w1.cell? ⟨w.heap.size,3,none⟩=some (.slice none 0 0):=(by simp[World.cell?,hR1])
 have rf3:w1.frozen? ⟨w.heap.size,3,none⟩=false:=(by simp[World.frozen?,hR1])
 have HXC:=hde (fun o i'=>cells_alloc (rset4_blk hR1 (.int .u8 0) (.int .i64 0) (.int .i64 0) (.slice none 0 0)) o i')
 unfold rset4 at HXC
 have HBX:Hid (∀ o,Below w.heap.size w ((rset4 w1 w.heap.size (.int .u8 0) (.int .i64 0) (.int .i64 0) (.slice none 0 0)).alloc o)):=fun o=>by have h:=below_rset4 hbw1 (Nat.le_refl w.heap.size) (.int .u8 0) (.int .i64 0) (.int .i64 0) (.slice none 0 0);exact h.alloc h.size o
 clear hW hR0 hb1 hsm hok
 by_cases c1:ra=0
 ·subst c1
  by_cases c2:0≤limit∧limit≤200
  ·obtain⟨m1,m2,m3,hiv,hie,B,rfl,hprg⟩:=uh HOK (uh HRA)
   subst m1 m2 m3
   have hE0:eno g=0∧(Sp.comp p).1=0:=by
    have h:=uh HRA
    unfold readE at h
    by_cases c:eno g≠0
    ·rw[if_pos c] at h;exact absurd h c
    ·rw[if_neg c] at h;exact⟨by simpa using c,h⟩
   obtain⟨cap,rfl⟩:∃ cap:Nat,limit=(cap:Int):=⟨limit.toNat,by omega⟩
   have hcap:cap≤200:=by omega
   have HASK:Hid (askE g p (cap:Int)=0):=by
    show _=_
    unfold askE
    rw[if_neg (by rw[hE0.1];simp),if_neg (by rw[hE0.2];simp),if_neg (by omega)]
   obtain⟨hjo,hvo⟩:=job_ok hE0.1 hE0.2 (uh HSM)
   have HJO:=hde hjo
   have HPRG:=hde hprg
   have HIV:=hde hiv
   obtain⟨n,HN⟩:∃ n,Hid ((vls g).length=n):=⟨_,rfl⟩
   have HRES:Hid (Sp.rgo (Sp.pgOf p) (els g) cap (cap+1) 0 (Sp.first' (Sp.pgOf p) (vls g))=resOf g p (cap:Int)):=by
    show _=_
    unfold resOf
    rw[if_pos (uh HASK)]
    rfl
   have HCF:Hid (Sp.CfgOk n (Sp.first' (Sp.pgOf p) (vls g))):=by have h:=Sp.first_ok (Sp.pgOf p) (vls g) hvo;rw[uh HN] at h;exact h
   have HNJ:=hde (fun W (hb:Below w1.heap.size w1 W)=>pnewjob p0 (vls g).length k0 p1 k1 p2 k2 B cap (els g) W (hie.below hb) hjo.n64 hjo.es (fun x hx=>(hjo.ed x hx).1))
   rw[uh HN] at HNJ HJO ⊢
   have hn64:n≤64:=(uh HJO).n64
   obtain⟨ne,HNE⟩:∃ ne,Hid ((els g).length=ne):=⟨_,rfl⟩
   rw[uh HNE] at HNJ ⊢
   have l1:(0:Int)≤(cap:Int):=Int.natCast_nonneg _
   have l2:(cap:Int)≤200:=by omega
   have HIF:Hid (∀ W,Calls Tryz.prog 22 #[.int .i64 (cap:Int),.int .i64 0,.int .i64 200] W fun e w'=>e = .returned (.bool true)∧w'=W):=by
    show ∀ W,_
    intro W
    have h:=pisfrom (cap:Int) 0 200 W
    rw[decide_eq_true l1,decide_eq_true l2] at h
    exact h
   clear hjo hvo hE0 hprg hiv hie c2 l1 l2
   have HRB1:=hde hR1
   clear r0 r1 r2 r3 rf0 rf1 rf2 rf3 HXC HBX hR1
   go_wp2_with (go_at_call 22;go_must (refine(uh HIF _).mono ?_);rintro e wq ⟨rfl,hwq⟩;obtain rfl:=hwq.symm)
   generalize hW1:World.alloc _ _=W1
   have hbA:Below w1.heap.size w1 W1:=by rw[← hW1];exact(Below.refl _ _).alloc nlr _
   clear hW1
   refine(uh HNJ W1 hbA).mono ?_
   rintro e w2 ⟨hb2,pe,ke,rfl,heb⟩
   have hb12:Below w1.heap.size w1 w2:=hbA.trans (hb2.mono hbA.size)
   have hz2:=hb12.size
   have HEB:=hde heb
   unfold pjobA
   clear HNJ heb hb2 hbA
   go_upto_region 7 with fail
   generalize hW3:World.alloc _ _=W3
   have hb23:Below w2.heap.size w2 W3:=by rw[← hW3];exact(Below.refl _ _).alloc nlr _
   have hJb:W3.heap[w2.heap.size]? = some (.cells (pjobA B p1 n k1 pe ke cap) 86 (0,0)):=by rw[← hW3];exact heap_alloc_new w2 _
   have hJl:=(Array.getElem?_eq_some_iff.1 hJb).1
   obtain⟨j0,j1,j2,j3⟩:=job4_cells hJb
   have hb13:Below w1.heap.size w1 W3:=hb12.trans (hb23.mono hb12.size)
   have hbw3:Below w.heap.size w W3:=hbw1.trans (hb13.mono hbw1.size)
   have HR3:=hde ((hb13.block w.heap.size hHl).trans (uh HRB1))
   have hRl:w.heap.size < W3.heap.size:=by have:=hb13.size;omega
   have HBG:Hid (∀ W,Below W3.heap.size W3 W→Calls Tryz.prog 25 #[.agg #[.pointer (some ⟨B,0,none⟩),.slice p1 n k1,.slice pe n ke,.int .i64 cap]] W (BPost (Sp.pgOf p) (vls g) n W)):=fun W hW=>by
    have h1:=hb13.trans (hW.mono hb13.size)
    exact pbegin B p1 n k1 pe ke cap (Sp.pgOf p) (vls g) W ((uh HPRG).below h1) ((uh HIV).below h1) (uh HN) hn64
   have HRU:Hid (∀ (W:World) (pp:Option Addr) (kk:Nat),Below W3.heap.size W3 W→VxAt W pp (Sp.first' (Sp.pgOf p) (vls g)) n→Calls Tryz.prog 24 #[.agg #[.pointer (some ⟨B,0,none⟩),.slice p1 n k1,.slice pe n ke,.int .i64 cap],.agg #[.int .i64 0,.slice pp n kk,.int .i64 (Sp.noneK (Sp.pgOf p).al)],.func (.func 26) #[] #[]] W (PRPost (resOf g p (cap:Int)) W)):=fun W pp kk hW hvx=>by
    have h1:=hb13.trans (hW.mono hb13.size)
    exact prun B p1 n k1 pe ke cap (Sp.pgOf p) (els g) pp kk (Sp.first' (Sp.pgOf p) (vls g)) z f 26 (resOf g p (cap:Int)) W ((uh HPRG).below h1) ((uh HER).below (hbw1.trans (h1.mono hbw1.size))) ((uh HEB).below (hb23.trans (hW.mono hb23.size))) hvx (uh HCF) (uh HJO) hcap (uh HRES) (cfe Tryz.func26 (by kernel_rfl) (by kernel_rfl)) (fun a q m k b W=>pshow a q m k b W)
   have HENB:Hid (∀ (args:Array Value) (w:World),(callFunc 25 args).run Tryz.prog w = .ok (.enter 25 args) w):=cfe Tryz.func25 (by kernel_rfl) (by kernel_rfl)
   have HENR:Hid (∀ (args:Array Value) (w:World),(callFunc 24 args).run Tryz.prog w = .ok (.enter 24 args) w):=cfe Tryz.func24 (by kernel_rfl) (by kernel_rfl)
   have HSR:Hid (∀ (wq:World) (v:Value) (Bq:Nat),Below W3.heap.size W3 wq→wq.ownsRow Bq 2 1 v (resOf g p (cap:Int)).vals.length ((resOf g p (cap:Int)).vals.map (Value.int .i64))→W3.heap.size≤Bq→SRPost g p (cap:Int) w (.returned (.tuple #[.agg #[.int .u8 (resOf g p (cap:Int)).outcome,.int .i64 (resOf g p (cap:Int)).step,.int .i64 (resOf g p (cap:Int)).vertex,v],.int .i64 0])) (rset4 wq w.heap.size (.int .u8 (resOf g p (cap:Int)).outcome) (.int .i64 (resOf g p (cap:Int)).step) (.int .i64 (resOf g p (cap:Int)).vertex) v)):=fun wq v Bq hbq hov hBq=>by
    have h1:=hbw3.trans (hbq.mono hbw3.size)
    refine⟨below_rset4 h1 nlr _ _ _ _,uh HSM,v,by rw[uh HASK],?_⟩
    have o':∀ {W:World} (j:Nat) (u:Value),W.ownsRow Bq 2 1 v (resOf g p (cap:Int)).vals.length ((resOf g p (cap:Int)).vals.map (Value.int .i64))→(W.setCell ⟨w.heap.size,j,none⟩ u).ownsRow Bq 2 1 v (resOf g p (cap:Int)).vals.length ((resOf g p (cap:Int)).vals.map (Value.int .i64)):=fun j u h=>ownsRow_setCell_below h (a:=⟨w.heap.size,j,none⟩) (by show w.heap.size < Bq;omega) u
    exact own_low (o' 3 _ (o' 2 _ (o' 1 _ (o' 0 _ hov)))) (by omega)
   obtain⟨na,HNA⟩:∃ na,Hid (Sp.noneK (Sp.pgOf p).al=na):=⟨_,rfl⟩
   unfold BPost at HBG
   unfold PRPost at HRU
   rw[uh HNA] at HBG HRU
   generalize resOf g p (cap:Int)=res at *
   obtain⟨oc,st,vt,V⟩:=res
   simp only at HRU HSR
   clear hW3 hb12 hb23 hJb HPRG HIV HRES HCF HRB1
   go_region_law (first
    | (refine step_call (by rfl) _ _ _ (by rfl) 25 (by rfl) _ (by rfl) (uh HENB) (uh HBG _ (by first | exact Below.refl _ _ | exact(Below.refl _ _).drew)) ?_;rintro e wq ⟨hbq0,sl,rfl,hos⟩;obtain⟨pp,kk,hpk,hvx⟩:=begin_vx (uh HN) hos;subst hpk;dsimp only;have hbq:Below W3.heap.size W3 wq:=(by first | exact hbq0 | exact(Below.refl _ _).drew.trans (hbq0.mono nlr));have HBQ:=hde hbq;have HVX:=hde hvx;have i0:=(hbq.cell (p:=⟨w2.heap.size,0,none⟩) hJl).trans j0;have i1:=(hbq.cell (p:=⟨w2.heap.size,1,none⟩) hJl).trans j1;have i2:=(hbq.cell (p:=⟨w2.heap.size,2,none⟩) hJl).trans j2;have i3:=(hbq.cell (p:=⟨w2.heap.size,3,none⟩) hJl).trans j3;clear hbq hbq0 hos hvx)
    | (refine step_call (by rfl) _ _ _ (by rfl) 24 (by rfl) _ (by rfl) (uh HENR) (uh HRU wq pp kk (uh HBQ) (uh HVX)) ?_;rintro e wr ⟨hbr0,v,rfl,hov⟩;obtain⟨pv2,kv2,hpk2,_⟩:=osl hov;subst hpk2;dsimp only;have hbr:Below W3.heap.size W3 wr:=(uh HBQ).trans (hbr0.mono (uh HBQ).size);have hRr:=(hbr.block w.heap.size hRl).trans (uh HR3);have r0:wr.cell? ⟨w.heap.size,0,none⟩=some (.int .u8 0):=(by simp[World.cell?,hRr]);have rf0:wr.frozen? ⟨w.heap.size,0,none⟩=false:=(by simp[World.frozen?,hRr]);have r1:wr.cell? ⟨w.heap.size,1,none⟩=some (.int .i64 0):=(by simp[World.cell?,hRr]);have rf1:wr.frozen? ⟨w.heap.size,1,none⟩=false:=(by simp[World.frozen?,hRr]);have r2:wr.cell? ⟨w.heap.size,2,none⟩=some (.int .i64 0):=(by simp[World.cell?,hRr]);have rf2:wr.frozen? ⟨w.heap.size,2,none⟩=false:=(by simp[World.frozen?,hRr]);have r3:wr.cell? ⟨w.heap.size,3,none⟩=some (.slice none 0 0):=(by simp[World.cell?,hRr]);have rf3:wr.frozen? ⟨w.heap.size,3,none⟩=false:=(by simp[World.frozen?,hRr]);have HBR:=hde hbr;have HOV:=hde hov;clear hbr hbr0 hov hRr))
   all_goals
    have HFN:Hid (O (.returned (.tuple #[.agg #[.int .u8 oc,.int .i64 st,.int .i64 vt,.slice pv2 V.length kv2],.int .i64 0])) (rset4 wr w.heap.size (.int .u8 oc) (.int .i64 st) (.int .i64 vt) (.slice pv2 V.length kv2))):=by
     show O _ _
     rw[← uh hO]
     exact uh HSR wr _ _ (uh HBR) (uh HOV) (uh HBQ).size
    first
     | (go_wp2;exact bodyPost_ret (v := .tuple #[.agg #[.int .u8 oc,.int .i64 st,.int .i64 vt,.slice pv2 V.length kv2],.int .i64 0]) (by simp[results,Tryz.results12,go_sem,r0,r1,r2,r3]) rfl (uh HFN))
     | trace_state
  ·have HE:Hid (askE g p limit=8):=by
    show _=_
    have h:=uh HRA
    unfold readE at h
    unfold askE
    by_cases c:eno g≠0
    ·rw[if_pos c] at h;exact absurd h c
    ·rw[if_neg c] at h ⊢;rw[if_neg (by rw[h];simp),if_pos (by omega)]
   have HIF:Hid (∀ W,Calls Tryz.prog 22 #[.int .i64 limit,.int .i64 0,.int .i64 200] W fun e w'=>e = .returned (.bool false)∧w'=W):=by
    show ∀ W,_
    intro W
    have h:=pisfrom limit 0 200 W
    have hf:(decide (0≤limit) && decide (limit≤200))=false:=by
     by_cases l1:0≤limit
     ·rw[decide_eq_true l1,decide_eq_false (fun l2=>c2 ⟨l1,l2⟩)];rfl
     ·rw[decide_eq_false l1];rfl
    rw[hf] at h
    exact h
   have HFN:Hid (∀ o,O (.returned (.tuple #[.agg #[.int .u8 0,.int .i64 0,.int .i64 0,.slice none 0 0],.int .i64 8])) ((rset4 w1 w.heap.size (.int .u8 0) (.int .i64 0) (.int .i64 0) (.slice none 0 0)).alloc o)):=by
    show ∀ o,_
    intro o
    rw[← uh hO]
    exact sr_err (uh HE) (by decide) (uh HBX o) (uh HSM)
   clear c2 hR1
   go_wp2_with (go_at_call 22;go_must (refine(uh HIF _).mono ?_);rintro e wq ⟨rfl,hwq⟩;obtain rfl:=hwq.symm)
   have hXC:=uh HXC
   exact bodyPost_ret (v := .tuple #[.agg #[.int .u8 0,.int .i64 0,.int .i64 0,.slice none 0 0],.int .i64 8]) (by simp[results,Tryz.results12,go_sem,hXC]) rfl (uh HFN _)
 ·have c1b:(ra != 0)=true:=by rw[bne_iff_ne];exact c1
  have HE:Hid (askE g p limit=ra):=by
   show _=_
   have h:=uh HRA
   unfold readE at h
   unfold askE
   by_cases c:eno g≠0
   ·rw[if_pos c] at h ⊢;exact h
   ·rw[if_neg c] at h ⊢;rw[if_pos (by rw[h];exact c1)];exact h
  have HC1:=hde c1
  have HFN:Hid (∀ o,O (.returned (.tuple #[.agg #[.int .u8 0,.int .i64 0,.int .i64 0,.slice none 0 0],.int .i64 ra])) ((rset4 w1 w.heap.size (.int .u8 0) (.int .i64 0) (.int .i64 0) (.slice none 0 0)).alloc o)):=by
   show ∀ o,_
   intro o
   rw[← uh hO]
   exact sr_err (uh HE) (uh HC1) (uh HBX o) (uh HSM)
  clear c1 hR1
  go_wp2
  have hXC:=uh HXC
  exact bodyPost_ret (v := .tuple #[.agg #[.int .u8 0,.int .i64 0,.int .i64 0,.slice none 0 0],.int .i64 ra]) (by simp[results,Tryz.results12,go_sem,hXC]) rfl (uh HFN _)
theorem tmod_bd {a:Int} {n:Nat} (ha:0≤a) (hn:0 < n):∃ r:Nat,a.tmod (n:Int)=(r:Int)∧r < n:=by
 have h1:=Int.tmod_nonneg (n:Int) ha
 have h2:=Int.tmod_lt_of_pos a (show (0:Int) < (n:Int) by omega)
 exact⟨(a.tmod (n:Int)).toNat,by omega,by omega⟩
theorem cvb (w:World) (xs:List Int):(convert 75 9 (.slice (some ⟨w.heap.size,0,none⟩) xs.length xs.length)).run Tryz.prog (w.alloc (.cells (xs.map (Value.int .u8)).toArray 5)) = .ok (.string (strOfNums xs)) (w.alloc (.cells (xs.map (Value.int .u8)).toArray 5)):=by
 refine run_convert_bytes_arg _ 75 5 Tryz.underlying75 Tryz.underlying5 w.heap.size 0 xs.length xs.length xs rfl (fun i hi=>?_) 9 Tryz.underlying9
 rw[Nat.zero_add,World.cell?_alloc_mark]
 simp[List.getElem?_eq_getElem hi,List.getD]
theorem cv1 (w:World) (a:Int):(convert 75 9 (.slice (some ⟨w.heap.size,0,none⟩) 1 1)).run Tryz.prog (w.alloc (.cells #[.int .u8 a] 5)) = .ok (.string (strOfNums [a])) (w.alloc (.cells #[.int .u8 a] 5)):=cvb w [a]
def pk (c:Int) (n:Nat):Nat:=((if c < 0 then -(c+1) else c).tmod (n:Int)).toNat
theorem pk_lt (c:Int) {n:Nat} (hn:0 < n):pk c n < n:=by
 unfold pk
 obtain⟨r,h1,h2⟩:=tmod_bd (a:=if c < 0 then -(c+1) else c) (n:=n) (by split <;> omega) hn
 omega
theorem pk_any (c:Int) (n:Nat) (w:World) (h1 : -9223372036854775808≤c) (h2:c≤9223372036854775807) (hn:0 < n) (hn2:n≤9223372036854775807) :
  Calls Tryz.prog 9 #[.int .i64 c,.int .i64 n] w fun e w'=>e = .returned (.int .i64 (pk c n))∧w'=w:=by
 by_cases hc:c < 0
 ·obtain⟨r,hr,hlt⟩:=tmod_bd (a := -(c+1)) (n:=n) (by omega) hn
  have HR:=hde hr
  have HPK:Hid (pk c n=r):=by show _=_;unfold pk;rw[if_pos hc,hr];exact Int.toNat_natCast r
  clear hr
  go_enter Tryz.func9,Tryz.ntmps9
  go_wp2
  go_ret
  exact⟨by rw[uh HPK];have h:=uh HR;rw[Int.neg_tmod] at h;rw[h];rfl,rfl⟩
 ·obtain⟨r,hr,hlt⟩:=tmod_bd (a:=c) (n:=n) (by omega) hn
  have HR:=hde hr
  have HPK:Hid (pk c n=r):=by show _=_;unfold pk;rw[if_neg hc,hr];exact Int.toNat_natCast r
  clear hr
  go_enter Tryz.func9,Tryz.ntmps9
  go_wp2
  go_ret
  exact⟨by rw[uh HPK];have h:=uh HR;rw[Int.tmod_eq_emod_of_nonneg hc] at h;rw[h];rfl,rfl⟩
theorem Sp.d4_step:∀ k,k < 1001→9 < k→Sp.d4 k=Sp.d4 (k / 10)++[UInt8.ofNat (48+k % 10)]:=by decide +kernel
theorem list_sz (b:ByteArray):b.size=b.data.toList.length:=by simp
theorem app_ls (a b:ByteArray):(a++b).data.toList=a.data.toList++b.data.toList:=by rw[ByteArray.data_append,Array.toList_append]
theorem dec4_any (n:Nat) (w:World) (hn:n < 1001):Calls Tryz.prog 10 #[.int .i64 n] w fun e w'=>(∃ b:ByteArray,e = .returned (.string b)∧b.data.toList=Sp.d4 n)∧Below w.heap.size w w':=by
 have h1:=cv1
 go_enter Tryz.func10,Tryz.ntmps10
 go_wp2
 go_loopw [0,3] (fun u v wr=>∃ (k:Nat) (t:ByteArray),u = .int .i64 k∧v = .string t∧Below w.heap.size w wr∧Hid (Sp.d4 n=Sp.d4 k++t.data.toList)∧k < 1001∧t.size≤3) (fun u _ _=>(intOf u).toNat)
 case atStart=>exact⟨n,⟨#[]⟩,rfl,rfl,Below.refl _ _,by show _=_;simp,hn,by decide⟩
 case round =>
  obtain⟨k,t,rfl,rfl,hb,HK,hk,ht⟩:=hrel
  have hz:=strOfNums_size
  by_cases c1:9 < k
  ·have c1z:(9:Int) < (k:Int):=by omega
   go_wp2
   go_roundw
   case rel =>
    have e4:(48+(k:Int) % 10).toNat=48+k % 10:=by omega
    have e5:(strOfNums [48+(k:Int) % 10]++t).data.toList=UInt8.ofNat (48+k % 10) :: t.data.toList:=by
     rw[app_ls];show [UInt8.ofNat (48+(k:Int) % 10).toNat]++_=_;rw[e4];rfl
    have e6:Sp.d4 n=Sp.d4 (k / 10)++(strOfNums [48+(k:Int) % 10]++t).data.toList:=by
     rw[e5,uh HK,Sp.d4_step k hk c1];simp
    refine⟨k / 10,_,by go_num,rfl,hb.trans ((Below.refl _ _).alloc hb.size _),e6,by omega,?_⟩
    have h2:=(Sp.d4_len n).2
    have h3:=(Sp.d4_len (k / 10)).1
    rw[e6,List.length_append] at h2
    rw[list_sz]
    omega
   case measure=>simp[intOf];omega
  ·have c1z:¬ (9:Int) < (k:Int):=by omega
   go_wp2
   go_ret
   have e4:(48+(k:Int)).toNat=48+k:=by omega
   refine⟨⟨_,rfl,?_⟩,hb.trans ((Below.refl _ _).alloc hb.size _)⟩
   rw[app_ls,uh HK]
   show [UInt8.ofNat (48+(k:Int)).toNat]++_=_
   rw[e4]
   unfold Sp.d4
   rw[if_pos (by omega)]
def RoadsAt (w:World) (p:Option Addr) (n:Nat) (F T W:Nat→Int):Prop := ∀ i,i < n→∃ g o,p=some ⟨g,o,none⟩∧g < w.heap.size∧w.cell? ⟨g,o+i * 3,none⟩=some (.int .i64 (F i))∧w.cell? ⟨g,o+i * 3+1,none⟩=some (.int .i64 (T i))∧w.cell? ⟨g,o+i * 3+2,none⟩=some (.int .i64 (W i))∧Sp.i64 (F i)∧Sp.i64 (T i)∧Sp.i64 (W i)
theorem RoadsAt.below {w w':World} {p:Option Addr} {n:Nat} {F T W:Nat→Int} (h:RoadsAt w p n F T W) (hb:Below w.heap.size w w'):RoadsAt w' p n F T W:=fun i hi=>by
 obtain⟨g,o,e,h1,h2,h3,h4,h5⟩:=h i hi
 exact⟨g,o,e,Nat.lt_of_lt_of_le h1 hb.size,(hb.cell (p:=⟨g,o+i * 3,none⟩) h1).trans h2,(hb.cell (p:=⟨g,o+i * 3+1,none⟩) h1).trans h3,(hb.cell (p:=⟨g,o+i * 3+2,none⟩) h1).trans h4,h5⟩
structure BestAt (w:World) (B n:Nat) (b:Nat→Int):Prop where
 c:∀ j,j < 8→∃ x:Int,w.cell? ⟨B,j,none⟩=some (.int .i64 x)∧(j < n→x=b j)
 f:∀ j,w.frozen? ⟨B,j,none⟩=false
 lt:B < w.heap.size
theorem BestAt.below {w w':World} {B n:Nat} {b:Nat→Int} (h:BestAt w B n b) (hb:Below w.heap.size w w'):BestAt w' B n b:=by
 refine⟨fun j hj=>?_,fun j=>?_,Nat.lt_of_lt_of_le h.lt hb.size⟩
 ·obtain⟨x,h1,h2⟩:=h.c j hj
  exact⟨x,(hb.cell (p:=⟨B,j,none⟩) h.lt).trans h1,h2⟩
 ·exact(hb.frozen (p:=⟨B,j,none⟩) h.lt).trans (h.f j)
theorem BestAt.set {w:World} {B n m:Nat} {b b':Nat→Int} (h:BestAt w B n b) {v:Nat} (hv:v < 8) (x:Int) (hx:v < m→x=b' v) (ho:∀ j,j < m→j≠v→j < n∧b j=b' j):BestAt (w.setCell ⟨B,v,none⟩ (.int .i64 x)) B m b':=by
 refine⟨fun j hj=>?_,fun j=>?_,?_⟩
 ·by_cases e:v=j
  ·subst e
   obtain⟨y,h1,_⟩:=h.c v hj
   exact⟨x,World.cell?_setCell_same _ _ _ h1,hx⟩
  ·obtain⟨y,h1,h2⟩:=h.c j hj
   refine⟨y,(cso e).trans h1,fun hm=>?_⟩
   obtain⟨h3,h4⟩:=ho j hm (fun e'=>e e'.symm)
   rw[h2 h3,h4]
 ·rw[World.frozen?_setCell];exact h.f j
 ·rw[World.size_setCell];exact h.lt
end Go.Proofs.YteflnddphpjahaaGreatDoor
