import Derived.Test.YteflnddphpjahaaGreatDoorCmRnR
set_option linter.unusedVariables false
set_option linter.unusedSimpArgs false
set_option maxRecDepth 100000
set_option maxHeartbeats 16000000
namespace Go.Proofs.YteflnddphpjahaaGreatDoor
open Go.RowKit
def VxAt (w:World) (p:Option Addr) (c:Sp.Cfg) (n:Nat):Prop := ∀ k,k < n→∃ g,p=some ⟨g,0,none⟩∧g < w.heap.size∧w.cell? ⟨g,k * 4,none⟩=some (.int .i64 (c.val.getD k 0))∧w.cell? ⟨g,k * 4+1,none⟩=some (.bool (c.rst.getD k false))∧w.cell? ⟨g,k * 4+2,none⟩=some (.int .i64 (c.got.getD k 0))∧w.cell? ⟨g,k * 4+3,none⟩=some (.int .i64 (c.inn.getD k 0))
theorem VxAt.below {w w':World} {p:Option Addr} {c:Sp.Cfg} {n:Nat} (h:VxAt w p c n) (hb:Below w.heap.size w w'):VxAt w' p c n:=fun k hk=>by
 obtain⟨g,a,b,c0,c1,c2,c3⟩:=h k hk
 have:=hb.size
 exact⟨g,a,by omega,(hb.cell (p:=⟨g,_,none⟩) b).trans c0,(hb.cell (p:=⟨g,_,none⟩) b).trans c1,(hb.cell (p:=⟨g,_,none⟩) b).trans c2,(hb.cell (p:=⟨g,_,none⟩) b).trans c3⟩
def pcfgV (step:Int) (p:Option Addr) (n k:Nat) (all:Int):Value := .agg #[.int .i64 step,.slice p n k,.int .i64 all]
theorem pactive (step:Nat) (p:Option Addr) (n k:Nat) (all v g i:Int) (r:Bool) (w:World) (hs:step≤100000) :
  Calls Tryz.prog 71 #[pcfgV step p n k all,.agg #[.int .i64 v,.bool r,.int .i64 g,.int .i64 i]] w fun e w'=>e = .returned (.bool (step == 0 || (!r || decide (0 < g))))∧Below w.heap.size w w':=by
 have HB:Hid (Below w.heap.size w ((w.alloc (.cells #[.int .i64 (step:Int),.slice p n k,.int .i64 all] 91)).alloc (.cells #[.int .i64 v,.bool r,.int .i64 g,.int .i64 i] 131))):=((Below.refl _ _).alloc nlr _).alloc (by simp) _
 unfold pcfgV
 by_cases h0:step=0
 ·subst h0
  have h0b:(((0:Nat):Int) == 0)=true:=rfl
  go_enter Tryz.func71,Tryz.ntmps71
  go_wp2
  go_ret
  exact⟨rfl,uh HB⟩
 ·have h0b:((step:Int) == 0)=false:=beq_eq_false_iff_ne.2 (by omega)
  have h0c:(step == 0)=false:=beq_eq_false_iff_ne.2 h0
  rw[h0c]
  cases r with
  | false =>
   go_enter Tryz.func71,Tryz.ntmps71
   go_wp2
   go_ret
   exact⟨rfl,uh HB⟩
  | true =>
   by_cases hg:0 < g
   ·have hgb:decide (0 < g)=true:=decide_eq_true hg
    go_enter Tryz.func71,Tryz.ntmps71
    go_wp2
    go_ret
    first | exact⟨rfl,uh HB⟩ | exact⟨by rw[hgb];rfl,uh HB⟩
   ·have hgb:decide (0 < g)=false:=decide_eq_false hg
    go_enter Tryz.func71,Tryz.ntmps71
    go_wp2
    go_ret
    first | exact⟨rfl,uh HB⟩ | exact⟨by rw[hgb];rfl,uh HB⟩
namespace Sp
theorem quiet_of {c:Cfg} {step n:Nat} (hn:c.val.length=n) (h:∀ k,k < n→awake c k step=false):quiet c step=true:=by
 unfold quiet
 rw[hn,List.all_eq_true]
 intro k hk
 rw[List.mem_range] at hk
 rw[h k hk];rfl
theorem quiet_not {c:Cfg} {step n k:Nat} (hn:c.val.length=n) (hk:k < n) (h:awake c k step=true):quiet c step=false:=by
 unfold quiet
 rw[hn,Bool.eq_false_iff]
 intro ha
 rw[List.all_eq_true] at ha
 have:=ha k (List.mem_range.2 hk)
 rw[h] at this
 cases this
end Sp
theorem pquiet (step:Nat) (p:Option Addr) (n cap:Nat) (c:Sp.Cfg) (w:World) (hv:VxAt w p c n) (hl:c.val.length=n) (hn:n≤64) (hs:step≤100000) :
  Calls Tryz.prog 70 #[pcfgV step p n cap c.all] w fun e w'=>e = .returned (.bool (Sp.quiet c step))∧Below w.heap.size w w':=by
 have HV:=hde hv
 have HL:=hde hl
 clear hv hl
 obtain⟨q,HQ⟩:∃ q,Hid (Sp.quiet c step=q):=⟨_,rfl⟩
 rw[uh HQ]
 unfold pcfgV
 have hb0:Below w.heap.size w (w.alloc (.cells #[.int .i64 (step:Int),.slice p n cap,.int .i64 c.all] 91)):=(Below.refl _ _).alloc nlr _
 have hbk:=heap_alloc_new w (.cells #[.int .i64 (step:Int),.slice p n cap,.int .i64 c.all] 91)
 go_enter Tryz.func70,Tryz.ntmps70
 go_wp2_with fail
 generalize hW:World.alloc _ _=W0 at *
 have HBK:=hde hbk
 have hCl:w.heap.size < W0.heap.size:=(Array.getElem?_eq_some_iff.1 hbk).1
 clear hW hbk
 go_loopw [8] (fun i wr=>∃ k:Nat,k≤n∧i = .int .i64 k∧Hid (∀ m,m < k→Sp.awake c m step=false)∧Below W0.heap.size W0 wr) (fun i _=>n - (intOf i).toNat)
 case atStart=>exact⟨0,Nat.zero_le _,rfl,fun m hm=>absurd hm (by omega),Below.refl _ _⟩
 case round =>
  obtain⟨k,hk,rfl,HA,hb⟩:=hrel
  have hbw:Below w.heap.size w wr:=hb0.trans (hb.mono hb0.size)
  by_cases hlt:k < n
  ·have hltz:(k:Int) < (n:Int):=by omega
   have g0:(0:Int)≤(k:Int):=Int.natCast_nonneg _
   obtain⟨g,rfl,hg,d0,d1,d2,d3⟩:=((uh HV).below hbw) k hlt
   have hCb:=(hb.block w.heap.size hCl).trans (uh HBK)
   have c0:wr.cell? ⟨w.heap.size,0,none⟩=some (.int .i64 (step:Int)):=by simp[World.cell?,hCb]
   have c1:wr.cell? ⟨w.heap.size,1,none⟩=some (.slice (some ⟨g,0,none⟩) n cap):=by simp[World.cell?,hCb]
   have c2:wr.cell? ⟨w.heap.size,2,none⟩=some (.int .i64 c.all):=by simp[World.cell?,hCb]
   have hCr:w.heap.size < wr.heap.size:=Nat.lt_of_lt_of_le hCl hb.size
   have HPA:=hde (fun W=>pactive step (some ⟨g,0,none⟩) n cap c.all (c.val.getD k 0) (c.got.getD k 0) (c.inn.getD k 0) (c.rst.getD k false) W hs)
   have HAW:Hid ((step == 0 || (!(c.rst.getD k false) || decide (0 < c.got.getD k 0)))=Sp.awake c k step):=rfl
   rw[uh HAW] at HPA
   obtain⟨aw,HW⟩:∃ aw,Hid (Sp.awake c k step=aw):=⟨_,rfl⟩
   rw[uh HW] at HPA
   unfold pcfgV at HPA
   generalize c.val.getD k 0=x0 at *
   generalize c.rst.getD k false=x1 at *
   generalize c.got.getD k 0=x2 at *
   generalize c.inn.getD k 0=x3 at *
   have hbA:Below wr.heap.size wr (wr.alloc (.cells #[.int .i64 x0,.bool x1,.int .i64 x2,.int .i64 x3] 131)):=(Below.refl _ _).alloc nlr _
   have HBA:=hde (hb.trans (hbA.mono hb.size))
   clear hCb hbA
   cases aw with
   | true =>
    have HE:Hid (q=false):=by show _=_;rw[← uh HQ];exact Sp.quiet_not (uh HL) hlt (uh HW)
    go_wp2_with fail
    refine(uh HPA _).mono ?_
    rintro e w2 ⟨rfl,hb2⟩
    have HB2:=hde ((uh HBA).trans (hb2.mono (uh HBA).size))
    clear hb2
    go_wp2
    go_ret
    exact⟨by rw[uh HE];rfl,hb0.trans ((uh HB2).mono hb0.size)⟩
   | false =>
    have HA2:Hid (∀ m,m < k+1→Sp.awake c m step=false):=fun m hm=>if h:m=k then h ▸ uh HW else uh HA m (by omega)
    go_wp2_with fail
    refine(uh HPA _).mono ?_
    rintro e w2 ⟨rfl,hb2⟩
    have HB2:=hde ((uh HBA).trans (hb2.mono (uh HBA).size))
    clear hb2
    go_wp2
    go_roundw
    case rel=>exact⟨k+1,by omega,by go_num,HA2,uh HB2⟩
    case measure=>simp[intOf];omega
  ·obtain rfl:k=n:=by omega
   have hltz:¬ (k:Int) < (k:Int):=by omega
   have HE:Hid (q=true):=by show _=_;rw[← uh HQ];exact Sp.quiet_of (uh HL) (uh HA)
   go_wp2
   go_ret
   exact⟨by rw[uh HE];rfl,hbw⟩
end Go.Proofs.YteflnddphpjahaaGreatDoor
