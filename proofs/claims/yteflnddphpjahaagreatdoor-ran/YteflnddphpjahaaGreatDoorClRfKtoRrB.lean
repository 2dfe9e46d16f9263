import Derived.Test.YteflnddphpjahaaGreatDoorClRfJ
import Derived.Test.YteflnddphpjahaaGreatDoorClRfI
import Derived.Test.YteflnddphpjahaaGreatDoorClRqGtoSrtD
import Derived.Test.YteflnddphpjahaaGreatDoorClRsCtoRqN
import Derived.Test.YteflnddphpjahaaGreatDoorClRrAtoCqT
set_option linter.unusedVariables false
set_option linter.unusedSimpArgs false
set_option maxRecDepth 100000
set_option maxHeartbeats 16000000
namespace Go.Proofs.YteflnddphpjahaaGreatDoor
open Go.RowKit
theorem cfg_of_row {w:World} {B n:Nat} {vv rr gg ii:Value} {c:Sp.Cfg} (h:CRow w B vv rr gg ii c.val c.rst c.got c.inn) (ok:Sp.CfgOk n c):∃ v:CV,vv = .slice v.pv n v.kv∧rr = .slice v.pr n v.kr∧gg = .slice v.pg n v.kg∧ii = .slice v.pi n v.ki∧CfgR w n v c:=by
 obtain⟨p0,k0,e0,i0⟩:=ints_of_own h.o0
 obtain⟨p1,k1,e1,i1⟩:=bools_of_own h.o1
 obtain⟨p2,k2,e2,i2⟩:=ints_of_own h.o2
 obtain⟨p3,k3,e3,i3⟩:=ints_of_own h.o3
 exact⟨⟨p0,k0,p1,k1,p2,k2,p3,k3⟩,by rw[e0,ok.lv],by rw[e1,ok.lr],by rw[e2,ok.lg],by rw[e3,ok.li],i0,i1,i2,i3,ok⟩
theorem ints_rset4 {W:World} {R:Nat} {k:IntKind} {p:Option Addr} {V:List Int} (h:IntsAt W k p V) (hp:∀ q,p=some q→q.block≠R) (a b c d:Value):IntsAt (rset4 W R a b c d) k p V:=fun j hj=>by
 obtain⟨g,e,h1,h2⟩:=h j hj
 have hne:R≠g:=fun q=>hp _ e q.symm
 refine⟨g,e,by unfold rset4;simp[World.setCell];exact h1,?_⟩
 unfold rset4
 rw[cellb_other hne,cellb_other hne,cellb_other hne,cellb_other hne]
 exact h2
theorem unfold_cfg {w:World} {R n:Nat} {v:CV} {all:Int} {t:Nat} (h:w.heap[R]? = some (.cells (cfgA n v all) t (0,0))):w.heap[R]? = some (.cells #[.slice v.pv n v.kv,.slice v.pr n v.kr,.slice v.pg n v.kg,.slice v.pi n v.ki,.int .i64 all] t (0,0)):=h
theorem below_set5' {B:Nat} {w W:World} {R:Nat} (h:Below B w W) (hR:B≤R) (a b c d e:Value):Below B w (set5 W R a b c d e):=
 ((((h.setCell (p:=⟨R,0,none⟩) hR _).setCell (p:=⟨R,1,none⟩) hR _).setCell (p:=⟨R,2,none⟩) hR _).setCell (p:=⟨R,3,none⟩) hR _).setCell (p:=⟨R,4,none⟩) hR _
def RRPost (g p:ByteArray) (limit:Int) (w:World) (e:Ending) (w':World):Prop :=
 Below w.heap.size w w'∧∃ pv kv,e = .returned (.tuple #[.agg #[.int .i64 (resOf g p limit).outcome,.int .i64 (resOf g p limit).step,.int .i64 (resOf g p limit).vertex,.slice pv (resOf g p limit).vals.length kv],.int .i64 (askE g p limit)])∧IntsAt w' .i64 pv (resOf g p limit).vals
structure RunI (W1 wr:World) (B C n:Nat) (P:Sp.Pg) (Es:List Sp.Ed) (cap s:Nat) (c:Sp.Cfg) (v:CV) (res:Sp.Res):Prop where
 cb:wr.heap[C]? = some (.cells (cfgA n v c.all) 114 (0,0))
 cf:CfgR wr n v c
 go:Sp.rgo P Es cap (cap+1 - s) s c=res
 bel:Below B W1 wr
 far:∀ q,v.pv=some q→B≤q.block
theorem cfg_at {w:World} {B n:Nat} {v:CV} {c:Sp.Cfg} (h:CRow w B (.slice v.pv n v.kv) (.slice v.pr n v.kr) (.slice v.pg n v.kg) (.slice v.pi n v.ki) c.val c.rst c.got c.inn) (ok:Sp.CfgOk n c):CfgR w n v c:=by
 obtain⟨p0,k0,e0,i0⟩:=ints_of_own h.o0
 obtain⟨p1,k1,e1,i1⟩:=bools_of_own h.o1
 obtain⟨p2,k2,e2,i2⟩:=ints_of_own h.o2
 obtain⟨p3,k3,e3,i3⟩:=ints_of_own h.o3
 injection e0 with e0 _ _
 injection e1 with e1 _ _
 injection e2 with e2 _ _
 injection e3 with e3 _ _
 exact⟨by rw[e0];exact i0,by rw[e1];exact i1,by rw[e2];exact i2,by rw[e3];exact i3,ok⟩
theorem RunI.next {W1 w4:World} {B Bs C n:Nat} {P:Sp.Pg} {Es:List Sp.Ed} {cap s:Nat} {c:Sp.Cfg} {res:Sp.Res} {vv rr gg ii x0 x1 x2 x3 x4:Value} (hb:w4.heap[C]? = some (.cells #[x0,x1,x2,x3,x4] 114 (0,0))) (hrow:CRow w4 Bs vv rr gg ii c.val c.rst c.got c.inn) (hC:C < Bs) (ok:Sp.CfgOk n c) (hg:Sp.rgo P Es cap (cap+1 - (s+1)) (s+1) c=res) (hbel:Below B W1 w4) (hBC:B≤C) :
  ∃ v:CV,vv = .slice v.pv n v.kv∧rr = .slice v.pr n v.kr∧gg = .slice v.pg n v.kg∧ii = .slice v.pi n v.ki∧∀ o,RunI W1 ((set5 w4 C (.slice v.pv n v.kv) (.slice v.pr n v.kr) (.slice v.pg n v.kg) (.slice v.pi n v.ki) (.int .i64 c.all)).alloc o) B C n P Es cap (s+1) c v res:=by
 obtain⟨v,rfl,rfl,rfl,rfl,_⟩:=cfg_of_row hrow ok
 refine⟨v,rfl,rfl,rfl,rfl,fun o=>?_⟩
 have h5:=set5_blk hb (.slice v.pv n v.kv) (.slice v.pr n v.kr) (.slice v.pg n v.kg) (.slice v.pi n v.ki) (.int .i64 c.all)
 have hA:Below (set5 w4 C (.slice v.pv n v.kv) (.slice v.pr n v.kr) (.slice v.pg n v.kg) (.slice v.pi n v.ki) (.int .i64 c.all)).heap.size (set5 w4 C (.slice v.pv n v.kv) (.slice v.pr n v.kr) (.slice v.pg n v.kg) (.slice v.pi n v.ki) (.int .i64 c.all)) ((set5 w4 C (.slice v.pv n v.kv) (.slice v.pr n v.kr) (.slice v.pg n v.kg) (.slice v.pi n v.ki) (.int .i64 c.all)).alloc o):=(Below.refl _ _).alloc nlr _
 have hb5:=below_set5' hbel hBC (.slice v.pv n v.kv) (.slice v.pr n v.kr) (.slice v.pg n v.kg) (.slice v.pi n v.ki) (.int .i64 c.all)
 refine⟨(hA.block C (Array.getElem?_eq_some_iff.1 h5).1).trans h5,cfg_at ((hrow.set5 hC _ _ _ _ _).below hA) ok,hg,hb5.trans (hA.mono (Nat.le_trans hBC (Nat.le_of_lt (Array.getElem?_eq_some_iff.1 h5).1))),?_⟩
 intro q e
 have h:=hrow.o0
 rw[e] at h
 rcases h.2 with ⟨e',_⟩ | ⟨g',cap',cur,e',h1,_⟩
 ·cases e'
 ·injection e' with e' _ _
  injection e' with e'
  subst e'
  have:Bs≤g':=h1
  show B≤g'
  omega
theorem rrun_any (g p:ByteArray) (limit:Int) (w:World) (hg:g.size≤maxLen) (hsm:Small g):Calls Tryz.prog 14 #[.string g,.string p,.int .i64 limit] w (RRPost g p limit w):=by
 generalize hO:RRPost g p limit w=O
 replace hO:=hde hO
 have hb0:Below w.heap.size w (w.alloc (.cells #[.int .i64 0,.int .i64 0,.int .i64 0,.slice none 0 0] 52)):=(Below.refl _ _).alloc nlr _
 have hR0:=heap_alloc_new w (.cells #[.int .i64 0,.int .i64 0,.int .i64 0,.slice none 0 0] 52)
 have hz0:=World.size_alloc w (.cells #[.int .i64 0,.int .i64 0,.int .i64 0,.slice none 0 0] 52)
 go_enter Tryz.func14,Tryz.ntmps14
 go_wp2_with fail
 generalize hW:World.alloc _ _=W0 at *
 refine(rasked_any g p limit W0 hg hsm).mono ?_
 rintro e w1 ⟨hb1,j,rfl,hj⟩
 have HJ:=hde hj
 obtain⟨ea,HEA⟩:∃ ea,Hid (askE g p limit=ea):=⟨_,rfl⟩
 rw[uh HEA]
 have hbw1:Below w.heap.size w w1:=hb0.trans (hb1.mono hb0.size)
 have hR1:=(hb1.block w.heap.size (by omega)).trans hR0
 have hz1:=hb1.size
 clear hj hW hR0 hb1
 unfold jobA
 by_cases c1:ea=0
 ·subst c1
  obtain⟨hjr,hcap⟩:=uh HJ (uh HEA)
  subst hcap
  have HJR:=hde hjr
  obtain⟨n,HN⟩:∃ n,Hid ((vls g).length=n):=⟨_,rfl⟩
  have hn64:n≤64:=by rw[← uh HN];exact hjr.ok.n64
  have hc200:=hjr.cap
  have HRES:Hid (resOf g p (j.cap:Int)=Sp.runR (Sp.pgOf p) (vls g) (els g) j.cap):=by
   show _=_
   unfold resOf
   rw[if_pos (uh HEA),Int.toNat_natCast]
  have HF:=hde (fun W (hb:Below w1.heap.size w1 W)=>rfirst_any j (Sp.pgOf p) (vls g) (els g) W (hjr.below hb))
  unfold jobA at HF
  clear hjr
  go_wp2_with fail
  generalize hW1:World.alloc _ _=W1
  have HA1:Hid (Below w1.heap.size w1 W1):=by show Below _ _ _;rw[← hW1];exact(Below.refl _ _).alloc nlr _
  have HJB:Hid (W1.heap[w1.heap.size]? = some (.cells (jobA j) 109 (0,0))):=by show _=_;rw[← hW1];unfold jobA;exact heap_alloc_new w1 _
  have HZ1:Hid (W1.heap.size=w1.heap.size+1):=by show _=_;rw[← hW1];exact World.size_alloc _ _
  clear hW1
  refine(uh HF W1 (uh HA1)).mono ?_
  rintro e w2 ⟨hb2,vv,rr,gg,ii,rfl,hrow⟩
  have HOK0:Hid (Sp.CfgOk n (Sp.first' (Sp.pgOf p) (vls g))):=by
   have h:=Sp.first_ok (Sp.pgOf p) (vls g) (uh HJR).vok
   rw[uh HN] at h
   exact h
  obtain⟨v0,rfl,rfl,rfl,rfl,hcf⟩:=cfg_of_row (c:=Sp.first' (Sp.pgOf p) (vls g)) hrow (uh HOK0)
  have hA2:Below w2.heap.size w2 (w2.alloc (.cells (cfgA n v0 (Sp.noneK (Sp.pgOf p).al)) 114)):=(Below.refl _ _).alloc nlr _
  have HI0:Hid (RunI W1 (w2.alloc (.cells (cfgA n v0 (Sp.noneK (Sp.pgOf p).al)) 114)) W1.heap.size w2.heap.size n (Sp.pgOf p) (els g) j.cap 0 (Sp.first' (Sp.pgOf p) (vls g)) v0 (resOf g p (j.cap:Int))):=by
   refine⟨heap_alloc_new w2 _,hcf.below hA2,?_,hb2.trans (hA2.mono hb2.size),?_⟩
   ·rw[uh HRES];rfl
   ·rintro q e
    have h:=hrow.o0
    rw[e] at h
    rcases h.2 with ⟨e',_⟩ | ⟨g',cap',cur,e',h1,_⟩
    ·cases e'
    ·injection e' with e' _ _
     injection e' with e'
     subst e'
     exact h1
  have hzC:W1.heap.size≤w2.heap.size:=hb2.size
  clear hrow hcf hA2 hb2 HF
  unfold cfgA at HI0
  obtain⟨res,HRS⟩:∃ res,Hid (resOf g p (j.cap:Int)=res):=⟨_,rfl⟩
  rw[uh HRS] at HI0
  obtain⟨na,HNA⟩:∃ na,Hid (Sp.noneK (Sp.pgOf p).al=na):=⟨_,rfl⟩
  rw[uh HNA] at HI0 ⊢
  go_wp2_with fail
  go_loopw [11] (fun u wr=>∃ (s:Nat) (c:Sp.Cfg) (v:CV),s≤j.cap∧u = .int .i64 s∧Hid (RunI W1 wr W1.heap.size w2.heap.size n (Sp.pgOf p) (els g) j.cap s c v res)) (fun u _=>j.cap+1 - (intOf u).toNat)
  case atStart=>exact⟨0,_,v0,Nat.zero_le _,rfl,HI0⟩
  case round =>
   clear HI0
   obtain⟨s,c,v,hs,rfl,HI⟩:=hrel
   have hbB:=(uh HI).bel
   have hzB:=hbB.size
   have hz1':=uh HZ1
   have hbw:Below w1.heap.size w1 wr:=(uh HA1).trans (hbB.mono (by omega))
   obtain⟨u0,u1,u2,u3,u4,u5,u6,u7,u8,u9,u10⟩:=job_cells (j:=j) ((hbB.block w1.heap.size (by omega)).trans (uh HJB))
   obtain⟨q0,q1,q2,q3,q4⟩:=cfg_cells (n:=n) (v:=v) (all:=c.all) (uh HI).cb
   have HE:=hde (rends_any j (Sp.pgOf p) (vls g) (els g) v c s wr ((uh HJR).below hbw) (by rw[uh HN];exact(uh HI).cf) (by omega))
   rw[uh HN] at HE
   unfold jobA cfgA at HE
   obtain⟨en,HEN⟩:∃ en,Hid (Sp.endsR j.cap c s=en):=⟨_,rfl⟩
   rw[uh HEN] at HE
   have hCl:w2.heap.size < wr.heap.size:=(Array.getElem?_eq_some_iff.1 (uh HI).cb).1
   have hfar:=(uh HI).far
   go_wp2_with fail
   refine(uh HE).mono ?_
   rintro e w3 ⟨rfl,hb3⟩
   have hbB3:Below W1.heap.size W1 w3:=hbB.trans (hb3.mono hbB.size)
   have hbw3:Below w1.heap.size w1 w3:=hbw.trans (hb3.mono hbw.size)
   have hcb3:=(hb3.block w2.heap.size hCl).trans (uh HI).cb
   have hcf3:=(uh HI).cf.below hb3
   have hz3:=hb3.size
   have hRb:∀ W,Below W1.heap.size W1 W→W.heap[w.heap.size]? = some (.cells #[.int .i64 0,.int .i64 0,.int .i64 0,.slice none 0 0] 52 (0,0)):=fun W hb=>(hb.block _ (by omega)).trans (((uh HA1).block _ (by omega)).trans hR1)
   clear u0 u1 u2 u3 u4 u5 u6 u7 u8 u9 u10 q0 q1 q2 q3 q4 HE hbB hbw hb3
   by_cases c2:en=0
   ·subst c2
    obtain⟨hslt,hgo⟩:=rgo_on (uh HI).go hs (uh HEN)
    rw[(uh HI).cf.ok.lv] at hgo
    obtain⟨u0,u1,u2,u3,u4,u5,u6,u7,u8,u9,u10⟩:=job_cells (j:=j) ((hbB3.block w1.heap.size (by omega)).trans (uh HJB))
    obtain⟨q0,q1,q2,q3,q4⟩:=cfg_cells (n:=n) (v:=v) (all:=c.all) hcb3
    have HST:=hde (rstep_any j (Sp.pgOf p) (vls g) (els g) v c s n w3 ((uh HJR).below hbw3) (uh HN) hcf3 (by omega) num_i64)
    unfold jobA cfgA at HST
    have HJO:Hid (Sp.JobOk (Sp.pgOf p) (els g) n):=by have h:=(uh HJR).ok;rw[uh HN] at h;exact h
    obtain⟨o,HSO⟩:∃ o,Hid (Sp.stp (Sp.pgOf p) (els g) c s n=o):=⟨_,rfl⟩
    rw[uh HSO] at HST hgo
    have HGO:=hde hgo
    have HCF3:=hde hcf3
    have HCB3:=hde hcb3
    have HRB:=hde hRb
    have HFAR:=hde hfar
    clear hgo hcf3 hcb3 hRb hfar HI
    go_wp2_with fail
    cases o with
    | error i =>
     refine(uh HST).mono ?_
     rintro e w4 ⟨hb4,rfl⟩
     unfold cfgA
     have hbB4:Below W1.heap.size W1 w4:=hbB3.trans (hb4.mono hbB3.size)
     have hz4:=hb4.size
     have hR4:=uh HRB w4 hbB4
     clear u0 u1 u2 u3 u4 u5 u6 u7 u8 u9 u10 q0 q1 q2 q3 q4
     have q0:=(cfg_cells (n:=n) (v:=v) (all:=c.all) ((hb4.block w2.heap.size (by omega)).trans (uh HCB3))).1
     have r0:w4.cell? ⟨w.heap.size,0,none⟩=some (.int .i64 0):=by simp[World.cell?,hR4]
     have rf0:w4.frozen? ⟨w.heap.size,0,none⟩=false:=by simp[World.frozen?,hR4]
     have r1:w4.cell? ⟨w.heap.size,1,none⟩=some (.int .i64 0):=by simp[World.cell?,hR4]
     have rf1:w4.frozen? ⟨w.heap.size,1,none⟩=false:=by simp[World.frozen?,hR4]
     have r2:w4.cell? ⟨w.heap.size,2,none⟩=some (.int .i64 0):=by simp[World.cell?,hR4]
     have rf2:w4.frozen? ⟨w.heap.size,2,none⟩=false:=by simp[World.frozen?,hR4]
     have r3:w4.cell? ⟨w.heap.size,3,none⟩=some (.slice none 0 0):=by simp[World.cell?,hR4]
     have rf3:w4.frozen? ⟨w.heap.size,3,none⟩=false:=by simp[World.frozen?,hR4]
     have gi0:(0:Int)≤(i:Int):=Int.natCast_nonneg _
     have hC4:w2.heap.size < w4.heap.size:=by omega
     have hR4l:w.heap.size < w4.heap.size:=by omega
     have HFN:Hid (∀ o,O (.returned (.tuple #[.agg #[.int .i64 3,.int .i64 s,.int .i64 i,.slice v.pv n v.kv],.int .i64 0])) ((rset4 w4 w.heap.size (.int .i64 3) (.int .i64 s) (.int .i64 i) (.slice v.pv n v.kv)).alloc o)):=by
      show ∀ o,_
      intro o
      rw[← uh hO]
      have hres:resOf g p (j.cap:Int)=⟨3,s,i,c.val⟩:=by rw[uh HRS];exact(uh HGO).symm
      have h5:Below w.heap.size w (rset4 w4 w.heap.size (.int .i64 3) (.int .i64 s) (.int .i64 i) (.slice v.pv n v.kv)):=below_rset4 (hbw1.trans (((uh HA1).mono hbw1.size).trans (hbB4.mono (by omega)))) nlr _ _ _ _
      refine⟨h5.alloc h5.size o,v.pv,v.kv,?_,?_⟩
      ·rw[hres,uh HEA,(uh HCF3).ok.lv];rfl
      ·rw[hres]
       exact(ints_rset4 ((uh HCF3).rv.below hb4) (fun q e=>by have:=uh HFAR q e;omega) _ _ _ _).below ((Below.refl _ _).alloc nlr o)
     have HXC:=hde (fun o i'=>cells_alloc (rset4_blk hR4 (.int .i64 3) (.int .i64 s) (.int .i64 i) (.slice v.pv n v.kv)) o i')
     unfold rset4 at HXC
     clear hR4 hb4
     go_wp2
     have hXC:=uh HXC
     exact bodyPost_ret (v := .tuple #[.agg #[.int .i64 3,.int .i64 s,.int .i64 i,.slice v.pv n v.kv],.int .i64 0]) (by simp[results,Tryz.results14,go_sem,hXC]) rfl (uh HFN _)
    | ok a =>
     refine(uh HST).mono ?_
     rintro e w4 ⟨hb4,vv,rr,gg,ii,rfl,hrow⟩
     have hokA:Sp.CfgOk n (Sp.nextC (Sp.pgOf p) n a):=Sp.next_ok (uh HJO) (Sp.stp_ok (uh HJO) num_i64 (uh HCF3).ok (by omega) n nlr a (uh HSO))
     have hbB4:Below W1.heap.size W1 w4:=hbB3.trans (hb4.mono hbB3.size)
     have hz4:=hb4.size
     have hcb4:=(hb4.block w2.heap.size (by omega)).trans (uh HCB3)
     obtain⟨v',rfl,rfl,rfl,rfl,hnext⟩:=RunI.next (c:=Sp.nextC (Sp.pgOf p) n a) (unfold_cfg hcb4) hrow (by omega) hokA (uh HGO) hbB4 hzC
     have HI2:=hde hnext
     obtain⟨p0,p1,p2,p3,p4⟩:=cfg_cells (n:=n) (v:=v) (all:=c.all) ((hb4.block w2.heap.size (by omega)).trans (uh HCB3))
     have hfz:∀ j,w4.frozen? ⟨w2.heap.size,j,none⟩=false:=fun j=>by simp[World.frozen?,(hb4.block w2.heap.size (by omega)).trans (uh HCB3)]
     have f0:=hfz 0
     have f1:=hfz 1
     have f2:=hfz 2
     have f3:=hfz 3
     have f4:=hfz 4
     have hC4:w2.heap.size < w4.heap.size:=by omega
     clear hrow hcb4 hnext hfz u0 u1 u2 u3 u4 u5 u6 u7 u8 u9 u10 q0 q1 q2 q3 q4 hb4
     go_wp2
     go_roundw
     case rel=>exact⟨s+1,_,v',by omega,by go_num,hde (uh HI2 _)⟩
     case measure=>simp[intOf];omega
   ·have c2b:(en != 0)=true:=by rw[bne_iff_ne];exact c2
    obtain⟨h1,h2,h3,h4⟩:=rgo_end (uh HI).go hs (uh HEN) c2
    have hR3:=hRb w3 hbB3
    have q0:=(cfg_cells (n:=n) (v:=v) (all:=c.all) hcb3).1
    have r0:w3.cell? ⟨w.heap.size,0,none⟩=some (.int .i64 0):=by simp[World.cell?,hR3]
    have rf0:w3.frozen? ⟨w.heap.size,0,none⟩=false:=by simp[World.frozen?,hR3]
    have r1:w3.cell? ⟨w.heap.size,1,none⟩=some (.int .i64 0):=by simp[World.cell?,hR3]
    have rf1:w3.frozen? ⟨w.heap.size,1,none⟩=false:=by simp[World.frozen?,hR3]
    have r2:w3.cell? ⟨w.heap.size,2,none⟩=some (.int .i64 0):=by simp[World.cell?,hR3]
    have rf2:w3.frozen? ⟨w.heap.size,2,none⟩=false:=by simp[World.frozen?,hR3]
    have r3:w3.cell? ⟨w.heap.size,3,none⟩=some (.slice none 0 0):=by simp[World.cell?,hR3]
    have rf3:w3.frozen? ⟨w.heap.size,3,none⟩=false:=by simp[World.frozen?,hR3]
    have HFN:Hid (O (.returned (.tuple #[.agg #[.int .i64 en,.int .i64 s,.int .i64 0,.slice v.pv n v.kv],.int .i64 0])) (rset4 w3 w.heap.size (.int .i64 en) (.int .i64 s) (.int .i64 0) (.slice v.pv n v.kv))):=by
     show O _ _
     rw[← uh hO]
     refine⟨below_rset4 (hbw1.trans (((uh HA1).mono hbw1.size).trans (hbB3.mono (by omega)))) nlr _ _ _ _,v.pv,v.kv,?_,?_⟩
     ·rw[uh HRS,h1,h2,h3,h4,uh HEA,hcf3.ok.lv];rfl
     ·rw[uh HRS,h4]
      exact ints_rset4 hcf3.rv (fun q e=>by have:=hfar q e;omega) _ _ _ _
    clear c2 h1 h2 h3 h4 hR3 hRb hcb3 hcf3 hfar
    go_wp2
    exact bodyPost_ret (v := .tuple #[.agg #[.int .i64 en,.int .i64 s,.int .i64 0,.slice v.pv n v.kv],.int .i64 0]) (by simp[results,Tryz.results14,go_sem,r0,r1,r2,r3]) rfl (uh HFN)
 ·have c1b:(ea != 0)=true:=by rw[bne_iff_ne];exact c1
  have hres:resOf g p limit=⟨0,0,0,[]⟩:=by unfold resOf;rw[if_neg (by rw[uh HEA];exact c1)]
  have r0:w1.cell? ⟨w.heap.size,0,none⟩=some (.int .i64 0):=by simp[World.cell?,hR1]
  have rf0:w1.frozen? ⟨w.heap.size,0,none⟩=false:=by simp[World.frozen?,hR1]
  have r1:w1.cell? ⟨w.heap.size,1,none⟩=some (.int .i64 0):=by simp[World.cell?,hR1]
  have rf1:w1.frozen? ⟨w.heap.size,1,none⟩=false:=by simp[World.frozen?,hR1]
  have r2:w1.cell? ⟨w.heap.size,2,none⟩=some (.int .i64 0):=by simp[World.cell?,hR1]
  have rf2:w1.frozen? ⟨w.heap.size,2,none⟩=false:=by simp[World.frozen?,hR1]
  have r3:w1.cell? ⟨w.heap.size,3,none⟩=some (.slice none 0 0):=by simp[World.cell?,hR1]
  have rf3:w1.frozen? ⟨w.heap.size,3,none⟩=false:=by simp[World.frozen?,hR1]
  have hHl:w.heap.size < w1.heap.size:=by omega
  have HFN:Hid (∀ o,O (.returned (.tuple #[.agg #[.int .i64 0,.int .i64 0,.int .i64 0,.slice none 0 0],.int .i64 ea])) ((rset4 w1 w.heap.size (.int .i64 0) (.int .i64 0) (.int .i64 0) (.slice none 0 0)).alloc o)):=by
   show ∀ o,_
   intro o
   rw[← uh hO]
   have h5:Below w.heap.size w (rset4 w1 w.heap.size (.int .i64 0) (.int .i64 0) (.int .i64 0) (.slice none 0 0)):=below_rset4 hbw1 nlr _ _ _ _
   refine⟨h5.alloc h5.size o,none,0,?_,?_⟩
   ·rw[hres,uh HEA];rfl
   ·rw[hres];intro j hj;simp at hj
  have HXC:=hde (fun o i'=>cells_alloc (rset4_blk hR1 (.int .i64 0) (.int .i64 0) (.int .i64 0) (.slice none 0 0)) o i')
  unfold rset4 at HXC
  clear c1 hres hR1
  go_wp2
  have hXC:=uh HXC
  exact bodyPost_ret (v := .tuple #[.agg #[.int .i64 0,.int .i64 0,.int .i64 0,.slice none 0 0],.int .i64 ea]) (by simp[results,Tryz.results14,go_sem,hXC]) rfl (uh HFN _)
structure RanEnv (w:World) (z f:Addr):Prop where
 tabs:Lib.Utf8Tabs 3 4 w
 comp:CompEnv w
 errs:Errs w z f
theorem RanEnv.below {w w':World} {z f:Addr} (h:RanEnv w z f) (hb:Below w.heap.size w w'):RanEnv w' z f:=⟨tabs_below h.tabs hb,h.comp.below hb,h.errs.below hb⟩
theorem res_bd (g p:ByteArray) (limit:Int) (hs:Small g):(resOf g p limit).outcome≤3∧(resOf g p limit).vals.length≤64:=by
 have hgo:∀ (P:Sp.Pg) (Es:List Sp.Ed) (cap:Nat) (n:Nat),Sp.JobOk P Es n→∀ (m s:Nat) (c:Sp.Cfg),m+s≤10000→Sp.CfgOk n c→(Sp.rgo P Es cap m s c).outcome≤3∧(Sp.rgo P Es cap m s c).vals.length≤n:=by
  intro P Es cap n hj m
  induction m with
  | zero=>intro s c _ _;exact⟨by show (0:Nat)≤3;omega,by simp[Sp.rgo]⟩
  | succ m ih =>
   intro s c hm hc
   rw[Sp.rgo]
   split
   ·exact⟨by show (1:Nat)≤3;omega,Nat.le_of_eq hc.lv⟩
   ·split
    ·exact⟨by show (2:Nat)≤3;omega,Nat.le_of_eq hc.lv⟩
    ·split
     ·exact⟨by show (3:Nat)≤3;omega,Nat.le_of_eq hc.lv⟩
     ·rename_i a ha
      rw[hc.lv] at ha ⊢
      exact ih (s+1) _ (by omega) (Sp.next_ok hj (Sp.stp_ok hj num_i64 hc (by omega) n nlr a ha))
 unfold resOf
 by_cases c:askE g p limit=0
 ·rw[if_pos c]
  obtain⟨h1,h2,h3,h4⟩:=askE_zero c
  obtain⟨hj,hv⟩:=job_ok h1 h2 hs
  have h:=hgo (Sp.pgOf p) (els g) limit.toNat _ hj (limit.toNat+1) 0 _ (by omega) (Sp.first_ok (Sp.pgOf p) (vls g) hv)
  exact⟨h.1,Nat.le_trans h.2 hj.n64⟩
 ·rw[if_neg c];exact⟨by decide,by simp⟩
theorem hrun_any (H N:Nat) (v1 v2 v3:Value) (hv hn he:List (Value × Int)) (g p:ByteArray) (limit:Int) (z f:Addr) (w:World) (h:HeldSt w H N v1 v2 v3 hv hn he) (hN:N+1≤1000) (hvl:hv.length+4≤1000) (a1:High H hv) (a2:High H hn) (a3:High H he) (hE:RanEnv w z f) (hg:g.size≤maxLen) :
  Calls Tryz.prog 7 #[.pointer (some ⟨H,0,none⟩),.string g,.string p,.int .i64 limit] w (HRPost w H N v2 v3 hv hn he):=by
 generalize hO:HRPost w H N v2 v3 hv hn he=O
 replace hO:=hde hO
 have HHS:=hde h
 have hHl:=h.lt
 have l1:=lie_of_marked h.m1
 have HA:=hde (And.intro a1 (And.intro a2 (And.intro a3 l1)))
 have HSR:=hde (srun_any g p limit z f w hE.tabs hE.comp hE.errs)
 clear h a1 a2 a3 l1 hE
 go_enter Tryz.func7,Tryz.ntmps7
 go_wp2_with fail
 refine(uh HSR).mono ?_
 rintro e w1 ⟨hb1,hsm,v,rfl,ho⟩
 have hbd:=res_bd g p limit hsm
 obtain⟨px,kx,hpk,_⟩:=osl ho
 subst hpk
 have HRR:=hde (fun W=>rrun_any g p limit W hg hsm)
 unfold RRPost at HRR
 obtain⟨ea,HEA⟩:∃ ea,Hid (askE g p limit=ea):=⟨_,rfl⟩
 rw[uh HEA] at HRR ⊢
 generalize resOf g p limit=res at *
 obtain⟨oc,st,vt,V⟩:=res
 simp only at ho hbd HRR ⊢
 have HO:=hde ho
 clear ho HSR
 go_wp2_with fail
 generalize hW1:World.alloc _ _=W1
 have hbA:Below w1.heap.size w1 W1:=by rw[← hW1];exact(Below.refl _ _).alloc nlr _
 have hX1:W1.heap[w1.heap.size]? = some (.cells #[.int .u8 oc,.int .i64 st,.int .i64 vt,.slice px V.length kx] 44 (0,0)):=by rw[← hW1];exact heap_alloc_new w1 _
 clear hW1
 refine(uh HRR W1).mono ?_
 rintro e w2 ⟨hb2,pq,kq,rfl,hiq⟩
 have hX2:=(hb2.block w1.heap.size (Array.getElem?_eq_some_iff.1 hX1).1).trans hX1
 have hXl:=(Array.getElem?_eq_some_iff.1 hX2).1
 have hb12:Below w1.heap.size w1 w2:=hbA.trans (hb2.mono hbA.size)
 have hbw2:Below w.heap.size w w2:=hb1.trans (hb12.mono hb1.size)
 have hA2:Below w2.heap.size w2 (w2.alloc (.cells #[.int .i64 oc,.int .i64 st,.int .i64 vt,.slice pq V.length kq] 52)):=(Below.refl _ _).alloc nlr _
 have hbw3:=hbw2.trans (hA2.mono hbw2.size)
 have HRS:=hde (hresult_any H N w.heap.size v1 v2 v3 hv hn he oc st vt V px pq kx kq (w2.alloc (.cells #[.int .i64 oc,.int .i64 st,.int .i64 vt,.slice pq V.length kq] 52)) ((uh HHS).below hbw3) hN hvl (uh HA).1 (uh HA).2.1 (uh HA).2.2.1 hHl hbw3.size (uh HA).2.2.2 (obl (obl (uh HO) hb12) hA2) (hiq.below hA2) (by omega) (by omega))
 obtain⟨x0,x1,x2,x3⟩:w2.cell? ⟨w1.heap.size,0,none⟩=some (.int .u8 oc)∧w2.cell? ⟨w1.heap.size,1,none⟩=some (.int .i64 st)∧w2.cell? ⟨w1.heap.size,2,none⟩=some (.int .i64 vt)∧w2.cell? ⟨w1.heap.size,3,none⟩=some (.slice px V.length kx):=⟨by simp[World.cell?,hX2],by simp[World.cell?,hX2],by simp[World.cell?,hX2],by simp[World.cell?,hX2]⟩
 have HB3:=hde hbw3
 have hee:(ea == ea)=true:=by simp
 clear hX1 hX2 hb1 hb2 hb12 hbA hbw2 hbw3 hA2 hiq HRR
 go_wp2_with fail
 refine(uh HRS).mono ?_
 rintro e w4 ⟨rfl,v1',hv',h4,b1,e1,hb4⟩
 have HFN:Hid (O (.returned (.bool true)) w4):=by
  show O _ _
  rw[← uh hO]
  exact⟨rfl,v1',hv',h4,b1,e1,((uh HB3).mono (by omega)).trans hb4⟩
 clear h4 b1 e1 hb4 HRS
 go_wp2_with (go_at_call 16;refine(num_any _ _).mono ?_;rintro e w5 ⟨rfl,hw⟩;obtain rfl:=hw.symm)
 first | exact uh HFN | (go_ret;exact uh HFN)
theorem ran_any (g p:ByteArray) (limit:Int) (z f:Addr) (w:World) (hE:RanEnv w z f) (hg:g.size≤maxLen) :
  Calls Tryz.prog 3 #[.string g,.string p,.int .i64 limit] w fun e w'=>e = .returned (.bool true)∧Below w.heap.size w w':=by
 have HE:=hde hE
 clear hE
 go_enter Tryz.func3,Tryz.ntmps3
 go_wp2_with fail
 have hb0:Below w.heap.size w (w.alloc (.cells #[.int .i64 0,.slice none 0 0,.slice none 0 0,.slice none 0 0,.slice none 0 0,.slice none 0 0] 29)):=(Below.refl _ _).alloc nlr _
 refine(hrun_any w.heap.size 0 _ _ _ [] [] [] g p limit z f _ (HeldSt.new w) (by omega) (by simp) (fun p hp=>by simp at hp) (fun p hp=>by simp at hp) (fun p hp=>by simp at hp) ((uh HE).below hb0) hg).mono ?_
 rintro e w1 ⟨rfl,v1,hv,h1,a1,e1,hb1⟩
 have hB1:Below w.heap.size w w1:=hb0.trans hb1
 simp at e1
 clear hb0 hb1
 go_wp2_with fail
 refine(hrun_any w.heap.size 1 _ _ _ hv [] [] g p limit z f _ h1 (by omega) (by omega) a1 (fun p hp=>by simp at hp) (fun p hp=>by simp at hp) ((uh HE).below hB1) hg).mono ?_
 rintro e w2 ⟨rfl,u1,gv,h2,c1,f1,hb2⟩
 have hB2:Below w.heap.size w w2:=hB1.trans hb2
 clear h1 a1 f1 hb2 hB1 e1
 go_wp2_with fail
 refine(dry_any w.heap.size 2 _ _ _ gv [] [] _ h2 (fun p hp=>(c1 p hp).2) (fun p hp=>by simp at hp) (fun p hp=>by simp at hp)).mono ?_
 rintro e w3 ⟨rfl,hb3⟩
 have HB3:=hde (hB2.trans (hb3.mono hB2.size))
 clear h2 c1 hb3 hB2
 go_wp2
 go_ret
 exact⟨rfl,uh HB3⟩
end Go.Proofs.YteflnddphpjahaaGreatDoor
