import Derived.Test.YteflnddphpjahaaGreatDoorClRnR
import Derived.Test.YteflnddphpjahaaGreatDoorClRnEtoRnK
import Derived.Test.YteflnddphpjahaaGreatDoorClCqItoCqN
import Derived.Test.YteflnddphpjahaaGreatDoorClSrtBtoCqA
import Derived.Deep.RegionLaw
set_option linter.unusedVariables false
set_option linter.unusedSimpArgs false
set_option maxRecDepth 100000
set_option maxHeartbeats 16000000
namespace Go.Proofs.YteflnddphpjahaaGreatDoor
open Go.RowKit
def VxAt (w:World) (p:Option Addr) (c:Sp.Cfg) (n:Nat):Prop := ∀ k,k < n→∃ g,p=some ⟨g,0,none⟩∧g < w.heap.size∧w.cell? ⟨g,k * 4,none⟩=some (.int .i64 (c.val.getD k 0))∧w.cell? ⟨g,k * 4+1,none⟩=some (.bool (c.rst.getD k false))∧w.cell? ⟨g,k * 4+2,none⟩=some (.int .i64 (c.got.getD k 0))∧w.cell? ⟨g,k * 4+3,none⟩=some (.int .i64 (c.inn.getD k 0))
theorem VxAt.below {w w':World} {p:Option Addr} {c:Sp.Cfg} {n:Nat} (h:VxAt w p c n) (hb:Below w.heap.size w w'):VxAt w' p c n:=fun k hk=>by
 obtain⟨g,a,b,c0,c1,c2,c3⟩:=h k hk
 have:=hb.size
 exact⟨g,a,by omega,(hb.cell (p:=⟨g,_,none⟩) b).trans c0,(hb.cell (p:=⟨g,_,none⟩) b).trans c1,(hb.cell (p:=⟨g,_,none⟩) b).trans c2,(hb.cell (p:=⟨g,_,none⟩) b).trans c3⟩
def pcfgV (step:Int) (p:Option Addr) (n k:Nat) (all:Int):Value := .agg #[.int .i64 step,.slice p n k,.int .i64 all]
theorem pactive (step:Nat) (p:Option Addr) (n k:Nat) (all v g i:Int) (r:Bool) (w:World) (hs:step≤100000) :
  Calls Tryz.prog 71 #[pcfgV step p n k all,.agg #[.int .i64 v,.bool r,.int .i64 g,.int .i64 i]] w fun e w'=>e = .returned (.bool (step == 0 || (!r || decide (0 < g))))∧Below w.heap.size w w':=by
 have HB:Hid (Below w.heap.size w ((w.alloc (.cells #[.int .i64 (step:Int),.slice p n k,.int .i64 all] 91)).alloc (.cells #[.int .i64 v,.bool r,.int .i64 g,.int .i64 i] 131))):=((Below.refl _ _).alloc nlr _).alloc (by simp) _
 unfold pcfgV
 by_cases h0:step=0
 ·subst h0
  have h0b:(((0:Nat):Int) == 0)=true:=rfl
  go_enter Tryz.func71,Tryz.ntmps71
  go_wp2
  go_ret
  exact⟨rfl,uh HB⟩
 ·have h0b:((step:Int) == 0)=false:=beq_eq_false_iff_ne.2 (by omega)
  have h0c:(step == 0)=false:=beq_eq_false_iff_ne.2 h0
  rw[h0c]
  cases r with
  | false =>
   go_enter Tryz.func71,Tryz.ntmps71
   go_wp2
   go_ret
   exact⟨rfl,uh HB⟩
  | true =>
   by_cases hg:0 < g
   ·have hgb:decide (0 < g)=true:=decide_eq_true hg
    go_enter Tryz.func71,Tryz.ntmps71
    go_wp2
    go_ret
    first | exact⟨rfl,uh HB⟩ | exact⟨by rw[hgb];rfl,uh HB⟩
   ·have hgb:decide (0 < g)=false:=decide_eq_false hg
    go_enter Tryz.func71,Tryz.ntmps71
    go_wp2
    go_ret
    first | exact⟨rfl,uh HB⟩ | exact⟨by rw[hgb];rfl,uh HB⟩
namespace Sp
theorem quiet_of {c:Cfg} {step n:Nat} (hn:c.val.length=n) (h:∀ k,k < n→awake c k step=false):quiet c step=true:=by
 unfold quiet
 rw[hn,List.all_eq_true]
 intro k hk
 rw[List.mem_range] at hk
 rw[h k hk];rfl
theorem quiet_not {c:Cfg} {step n k:Nat} (hn:c.val.length=n) (hk:k < n) (h:awake c k step=true):quiet c step=false:=by
 unfold quiet
 rw[hn,Bool.eq_false_iff]
 intro ha
 rw[List.all_eq_true] at ha
 have:=ha k (List.mem_range.2 hk)
 rw[h] at this
 cases this
end Sp
theorem pquiet (step:Nat) (p:Option Addr) (n cap:Nat) (c:Sp.Cfg) (w:World) (hv:VxAt w p c n) (hl:c.val.length=n) (hn:n≤64) (hs:step≤100000) :
  Calls Tryz.prog 70 #[pcfgV step p n cap c.all] w fun e w'=>e = .returned (.bool (Sp.quiet c step))∧Below w.heap.size w w':=by
 have HV:=hde hv
 have HL:=hde hl
 clear hv hl
 obtain⟨q,HQ⟩:∃ q,Hid (Sp.quiet c step=q):=⟨_,rfl⟩
 rw[uh HQ]
 unfold pcfgV
 have hb0:Below w.heap.size w (w.alloc (.cells #[.int .i64 (step:Int),.slice p n cap,.int .i64 c.all] 91)):=(Below.refl _ _).alloc nlr _
 have hbk:=heap_alloc_new w (.cells #[.int .i64 (step:Int),.slice p n cap,.int .i64 c.all] 91)
 go_enter Tryz.func70,Tryz.ntmps70
 go_wp2_with fail
 generalize hW:World.alloc _ _=W0 at *
 have HBK:=hde hbk
 have hCl:w.heap.size < W0.heap.size:=(Array.getElem?_eq_some_iff.1 hbk).1
 clear hW hbk
 go_loopw [8] (fun i wr=>∃ k:Nat,k≤n∧i = .int .i64 k∧Hid (∀ m,m < k→Sp.awake c m step=false)∧Below W0.heap.size W0 wr) (fun i _=>n - (intOf i).toNat)
 case atStart=>exact⟨0,Nat.zero_le _,rfl,fun m hm=>absurd hm (by omega),Below.refl _ _⟩
 case round =>
  obtain⟨k,hk,rfl,HA,hb⟩:=hrel
  have hbw:Below w.heap.size w wr:=hb0.trans (hb.mono hb0.size)
  by_cases hlt:k < n
  ·have hltz:(k:Int) < (n:Int):=by omega
   have g0:(0:Int)≤(k:Int):=Int.natCast_nonneg _
   obtain⟨g,rfl,hg,d0,d1,d2,d3⟩:=((uh HV).below hbw) k hlt
   have hCb:=(hb.block w.heap.size hCl).trans (uh HBK)
   have c0:wr.cell? ⟨w.heap.size,0,none⟩=some (.int .i64 (step:Int)):=by simp[World.cell?,hCb]
   have c1:wr.cell? ⟨w.heap.size,1,none⟩=some (.slice (some ⟨g,0,none⟩) n cap):=by simp[World.cell?,hCb]
   have c2:wr.cell? ⟨w.heap.size,2,none⟩=some (.int .i64 c.all):=by simp[World.cell?,hCb]
   have hCr:w.heap.size < wr.heap.size:=Nat.lt_of_lt_of_le hCl hb.size
   have HPA:=hde (fun W=>pactive step (some ⟨g,0,none⟩) n cap c.all (c.val.getD k 0) (c.got.getD k 0) (c.inn.getD k 0) (c.rst.getD k false) W hs)
   have HAW:Hid ((step == 0 || (!(c.rst.getD k false) || decide (0 < c.got.getD k 0)))=Sp.awake c k step):=rfl
   rw[uh HAW] at HPA
   obtain⟨aw,HW⟩:∃ aw,Hid (Sp.awake c k step=aw):=⟨_,rfl⟩
   rw[uh HW] at HPA
   unfold pcfgV at HPA
   generalize c.val.getD k 0=x0 at *
   generalize c.rst.getD k false=x1 at *
   generalize c.got.getD k 0=x2 at *
   generalize c.inn.getD k 0=x3 at *
   have hbA:Below wr.heap.size wr (wr.alloc (.cells #[.int .i64 x0,.bool x1,.int .i64 x2,.int .i64 x3] 131)):=(Below.refl _ _).alloc nlr _
   have HBA:=hde (hb.trans (hbA.mono hb.size))
   clear hCb hbA
   cases aw with
   | true =>
    have HE:Hid (q=false):=by show _=_;rw[← uh HQ];exact Sp.quiet_not (uh HL) hlt (uh HW)
    go_wp2_with fail
    refine(uh HPA _).mono ?_
    rintro e w2 ⟨rfl,hb2⟩
    have HB2:=hde ((uh HBA).trans (hb2.mono (uh HBA).size))
    clear hb2
    go_wp2
    go_ret
    exact⟨by rw[uh HE];rfl,hb0.trans ((uh HB2).mono hb0.size)⟩
   | false =>
    have HA2:Hid (∀ m,m < k+1→Sp.awake c m step=false):=fun m hm=>if h:m=k then h ▸ uh HW else uh HA m (by omega)
    go_wp2_with fail
    refine(uh HPA _).mono ?_
    rintro e w2 ⟨rfl,hb2⟩
    have HB2:=hde ((uh HBA).trans (hb2.mono (uh HBA).size))
    clear hb2
    go_wp2
    go_roundw
    case rel=>exact⟨k+1,by omega,by go_num,HA2,uh HB2⟩
    case measure=>simp[intOf];omega
  ·obtain rfl:k=n:=by omega
   have hltz:¬ (k:Int) < (k:Int):=by omega
   have HE:Hid (q=true):=by show _=_;rw[← uh HQ];exact Sp.quiet_of (uh HL) (uh HA)
   go_wp2
   go_ret
   exact⟨by rw[uh HE];rfl,hbw⟩
def stk (T:List Int):List Value:=T.reverse.map (Value.int .i64)
theorem stk_len (T:List Int):(stk T).length=T.length:=by simp[stk]
theorem stk_cons (v:Int) (T:List Int):stk (v :: T)=stk T++[.int .i64 v]:=by simp[stk]
structure Dog (w:World) (D:Nat) (E:Sp.Ev) (T:List Int) (fuel:Int) (failed:Bool) (x:Value):Prop where
 e0:w.cell? ⟨D,0,none⟩=some (.int .i64 E.value)
 e1:w.cell? ⟨D,1,none⟩=some (.int .i64 E.old)
 e2:w.cell? ⟨D,2,none⟩=some (.int .i64 E.inn)
 e3:w.cell? ⟨D,3,none⟩=some (.int .i64 E.got)
 e4:w.cell? ⟨D,4,none⟩=some (.int .i64 E.step)
 e5:w.cell? ⟨D,5,none⟩=some (.int .i64 E.id)
 e6:w.cell? ⟨D,6,none⟩=some (.int .i64 E.deg)
 e7:w.cell? ⟨D,7,none⟩=some (.int .i64 E.all)
 e8:w.cell? ⟨D,8,none⟩=some (.int .i64 E.weight)
 st:w.cell? ⟨D,9,none⟩=some x
 fu:w.cell? ⟨D,10,none⟩=some (.int .i64 fuel)
 fa:w.cell? ⟨D,11,none⟩=some (.bool failed)
 fz:∀ j,w.frozen? ⟨D,j,none⟩=false
 row:w.ownsRow (D+1) 2 1 x T.length (stk T)
theorem Dog.lt {w:World} {D:Nat} {E:Sp.Ev} {T:List Int} {fuel:Int} {failed:Bool} {x:Value} (h:Dog w D E T fuel failed x):D < w.heap.size:=World.block_lt_of_cell? w _ h.e0
theorem Dog.far {w w':World} {D:Nat} {E:Sp.Ev} {T T':List Int} {fuel:Int} {failed:Bool} {x x':Value} (h:Dog w D E T fuel failed x) (hc:∀ j,j≠9→w'.cell? ⟨D,j,none⟩=w.cell? ⟨D,j,none⟩) (hf:∀ j,w'.frozen? ⟨D,j,none⟩=w.frozen? ⟨D,j,none⟩) (hs:w'.cell? ⟨D,9,none⟩=some x') (hr:w'.ownsRow (D+1) 2 1 x' T'.length (stk T')):Dog w' D E T' fuel failed x' :=
 ⟨(hc _ (by omega)).trans h.e0,(hc _ (by omega)).trans h.e1,(hc _ (by omega)).trans h.e2,(hc _ (by omega)).trans h.e3,(hc _ (by omega)).trans h.e4,(hc _ (by omega)).trans h.e5,(hc _ (by omega)).trans h.e6,(hc _ (by omega)).trans h.e7,(hc _ (by omega)).trans h.e8,hs,(hc _ (by omega)).trans h.fu,(hc _ (by omega)).trans h.fa,fun j=>(hf j).trans (h.fz j),hr⟩
theorem Dog.below {w w':World} {D:Nat} {E:Sp.Ev} {T:List Int} {fuel:Int} {failed:Bool} {x:Value} (h:Dog w D E T fuel failed x) (hb:Below w.heap.size w w'):Dog w' D E T fuel failed x :=
 h.far (fun j _=>hb.cell (p:=⟨D,j,none⟩) h.lt) (fun j=>hb.frozen (p:=⟨D,j,none⟩) h.lt) ((hb.cell (p:=⟨D,9,none⟩) h.lt).trans h.st) (obl h.row hb)
theorem Dog.drewN {w:World} {D:Nat} {E:Sp.Ev} {T:List Int} {fuel:Int} {failed:Bool} {x:Value} (h:Dog w D E T fuel failed x) (n:Nat):Dog (w.drewN n) D E T fuel failed x:=h.below (below_drewN w n)
theorem Dog.alloc {w:World} {D:Nat} {E:Sp.Ev} {T:List Int} {fuel:Int} {failed:Bool} {x:Value} (h:Dog w D E T fuel failed x) (o:Obj):Dog (w.alloc o) D E T fuel failed x:=h.below ((Below.refl _ _).alloc nlr _)
theorem Dog.fue {w:World} {D:Nat} {E:Sp.Ev} {T:List Int} {fuel:Int} {failed:Bool} {x:Value} (h:Dog w D E T fuel failed x) (f:Int):Dog (w.setCell ⟨D,10,none⟩ (.int .i64 f)) D E T f failed x:=by
 have ho:∀ j,j≠10→(w.setCell ⟨D,10,none⟩ (.int .i64 f)).cell? ⟨D,j,none⟩=w.cell? ⟨D,j,none⟩:=fun j hj=>cso (by omega)
 exact⟨(ho _ (by omega)).trans h.e0,(ho _ (by omega)).trans h.e1,(ho _ (by omega)).trans h.e2,(ho _ (by omega)).trans h.e3,(ho _ (by omega)).trans h.e4,(ho _ (by omega)).trans h.e5,(ho _ (by omega)).trans h.e6,(ho _ (by omega)).trans h.e7,(ho _ (by omega)).trans h.e8,(ho _ (by omega)).trans h.st,World.cell?_setCell_same _ _ _ h.fu,(ho _ (by omega)).trans h.fa,fun j=>by rw[World.frozen?_setCell];exact h.fz j,((Only.refl D w).set _ _).own h.row⟩
theorem Dog.fai {w:World} {D:Nat} {E:Sp.Ev} {T:List Int} {fuel:Int} {failed:Bool} {x:Value} (h:Dog w D E T fuel failed x) (f:Bool):Dog (w.setCell ⟨D,11,none⟩ (.bool f)) D E T fuel f x:=by
 have ho:∀ j,j≠11→(w.setCell ⟨D,11,none⟩ (.bool f)).cell? ⟨D,j,none⟩=w.cell? ⟨D,j,none⟩:=fun j hj=>cso (by omega)
 exact⟨(ho _ (by omega)).trans h.e0,(ho _ (by omega)).trans h.e1,(ho _ (by omega)).trans h.e2,(ho _ (by omega)).trans h.e3,(ho _ (by omega)).trans h.e4,(ho _ (by omega)).trans h.e5,(ho _ (by omega)).trans h.e6,(ho _ (by omega)).trans h.e7,(ho _ (by omega)).trans h.e8,(ho _ (by omega)).trans h.st,(ho _ (by omega)).trans h.fu,World.cell?_setCell_same _ _ _ h.fa,fun j=>by rw[World.frozen?_setCell];exact h.fz j,((Only.refl D w).set _ _).own h.row⟩
theorem Dog.sta {w:World} {D:Nat} {E:Sp.Ev} {T T':List Int} {fuel:Int} {failed:Bool} {x x':Value} (h:Dog w D E T fuel failed x) (hr:w.ownsRow (D+1) 2 1 x' T'.length (stk T')):Dog (w.setCell ⟨D,9,none⟩ x') D E T' fuel failed x' :=
 h.far (fun j hj=>cso (by omega)) (fun j=>World.frozen?_setCell _ _ _ _) (World.cell?_setCell_same _ _ _ h.st) (((Only.refl D w).set _ _).own hr)
def DogS (w:World) (D:Nat) (E:Sp.Ev) (T:List Int) (fuel:Int) (failed:Bool):Prop := ∃ x,Dog w D E T fuel failed x
theorem Dog.slice {w:World} {D:Nat} {E:Sp.Ev} {v:Int} {T:List Int} {fuel:Int} {failed:Bool} {x:Value} (h:Dog w D E (v :: T) fuel failed x) :
  ∃ g cap,x = .slice (some ⟨g,0,none⟩) (T.length+1) cap∧D < g∧T.length+1≤cap∧w.cell? ⟨g,T.length,none⟩=some (.int .i64 v)∧w.ownsRow (D+1) 2 1 (.slice (some ⟨g,0,none⟩) T.length cap) T.length (stk T):=by
 have hr:=h.row
 rw[List.length_cons] at hr
 rcases hr.2 with ⟨_,hn⟩ | ⟨g,cap,cur,hv,hB,hg,r⟩
 ·omega
 ·subst hv
  refine⟨g,cap,rfl,hB,r.1,?_,?_⟩
  ·rw[hr.cellAt T.length (by omega),stk_cons,List.getElem?_append_right (by rw[stk_len];omega),stk_len,Nat.sub_self];rfl
  ·have:=own_cut hr
   rw[stk_cons,List.take_left' (by rw[stk_len];omega)] at this
   exact this
theorem dpop (v:Int) (D:Nat) (E:Sp.Ev) (T:List Int) (fuel:Int) (failed:Bool) (w:World) (h:DogS w D E (v :: T) fuel failed) (hT:T.length≤10000) :
  Calls Tryz.prog 295 #[.pointer (some ⟨D,0,none⟩)] w fun e w'=>e = .returned (.int .i64 v)∧DogS w' D E T fuel failed∧Below D w w':=by
 obtain⟨x,hd⟩:=h
 obtain⟨g,cap,rfl,hg,hcap,hc,hr⟩:=hd.slice
 have HD:=hde hd
 have HR:=hde hr
 have hlt:=hd.lt
 have e1:=hd.st
 have f1:=hd.fz 9
 have HZ:Hid (DogS (w.setCell ⟨D,9,none⟩ (.slice (some ⟨g,0,none⟩) T.length cap)) D E T fuel failed∧Below D w (w.setCell ⟨D,9,none⟩ (.slice (some ⟨g,0,none⟩) T.length cap))):=
  ⟨⟨_,(uh HD).sta (uh HR)⟩,(Below.refl D w).setCell (p:=⟨D,9,none⟩) nlr _⟩
 clear hd hr
 obtain⟨n,hn⟩:∃ n,T.length=n:=⟨_,rfl⟩
 rw[hn] at hcap hc e1 hT HZ
 clear HD HR
 have g0:((n+1:Nat):Int) - 1=(n:Int):=by omega
 have g1:(0:Int)≤(n:Int):=Int.natCast_nonneg _
 have g2:(n:Int) < ((n+1:Nat):Int):=by omega
 have hc0:(n:Int)≤(cap:Int):=by omega
 have hc1:n≤cap:=by omega
 clear hn
 go_enter Tryz.func295,Tryz.ntmps295
 go_wp2
 exact bodyPost_ret (v := .int .i64 v) (by simp[results,Tryz.results295,go_sem]) rfl ⟨rfl,(uh HZ).1,(uh HZ).2⟩
theorem dpush (v:Int) (D:Nat) (E:Sp.Ev) (T:List Int) (fuel:Int) (failed:Bool) (w:World) (h:DogS w D E T fuel failed) (hT:T.length≤10000) :
  Calls Tryz.prog 241 #[.pointer (some ⟨D,0,none⟩),.int .i64 v] w fun e w'=>e = .returned (.tuple #[])∧DogS w' D E (v :: T) fuel failed∧Below D w w':=by
 obtain⟨t2,ht2,hva,hvb,hvc⟩:=info_parts Tryz.info_i64
 obtain⟨x,hd⟩:=h
 have hr:=hd.row
 have hml:=hd.lt
 have e2:=hd.st
 have e3:=hd.fz 9
 have hne2:some D≠x.ownBlock:=fun e=>by have:=(hr.lt D e.symm).1;omega
 go_enter Tryz.func241,Tryz.ntmps241
 go_wp2_with (first
  | (at_builtin;go_must (refine wpList_append_lies _ rfl (.tmp 8) (.tmp 10) 42 rfl (D+1) 2 t2 _ 1 8 Tryz.underlying42 ht2 hva hvb hvc rfl (by omega) x _ _ rfl (hr.alloc _) ⟨w.heap.size,0,none⟩ 1 1 [.int .i64 v] rfl rfl (World.news_of_block (cs := #[.int .i64 v]) (t:=2) (fr:=(0,0)) (heap_alloc_new w _)) (by simp[Value.oneCell']) (by omega) (by unfold maxLen;omega) (by omega) (by simp;omega) (w.heap.size+1) (by simp) ?_;intro gg cp w2 hown1 hgrow hat hlt1;have hq0:w2.cell? ⟨D,9,none⟩=some x:=(hgrow.cell_far ⟨D,9,none⟩ (by simp;omega) hne2).trans (hd.alloc _).st;have hq1:w2.frozen? ⟨D,9,none⟩=false:=(hgrow.frozen_far ⟨D,9,none⟩ (by simp;omega) hne2).trans ((hd.alloc _).fz 9)))
  | go_in)
 have hb1:=below_app ((Below.refl D w).alloc (Nat.le_of_lt hml) _) (hd.alloc _).lt (hr.alloc _) hgrow 9 (.slice (some ⟨gg,0,none⟩) (T.length+1) cp)
 refine bodyPost_end (results_none rfl _ _ _) rfl ⟨rfl,⟨_,(hd.alloc _).far (fun j hj=>(cso (by omega)).trans (hgrow.cell_far ⟨D,j,none⟩ (by simp;omega) hne2)) (fun j=>(World.frozen?_setCell _ _ _ _).trans (hgrow.frozen_far ⟨D,j,none⟩ (by simp;omega) hne2)) (World.cell?_setCell_same _ _ _ hq0) ?_⟩,hb1⟩
 rw[stk_cons]
 exact((Only.refl D w2).set _ _).own hown1
theorem dpays1 (D:Nat) (E:Sp.Ev) (T:List Int) (fuel:Nat) (w:World) (h:DogS w D E T ((fuel+1:Nat):Int) false) (hf:fuel≤10000) :
  Calls Tryz.prog 239 #[.pointer (some ⟨D,0,none⟩)] w fun e w'=>e = .returned (.bool true)∧DogS w' D E T (fuel:Int) false∧Below D w w':=by
 obtain⟨x,hd⟩:=h
 have HD:=hde hd
 have hlt:=hd.lt
 have e1:=hd.fu
 have f1:=hd.fz 10
 have e2:=hd.fa
 have HZ:Hid (DogS (w.setCell ⟨D,10,none⟩ (.int .i64 (fuel:Int))) D E T fuel false∧Below D w (w.setCell ⟨D,10,none⟩ (.int .i64 (fuel:Int)))):=
  ⟨⟨_,(uh HD).fue (fuel:Int)⟩,(Below.refl D w).setCell (p:=⟨D,10,none⟩) nlr _⟩
 have g1:((((fuel+1:Nat)):Int) == 0)=false:=beq_eq_false_iff_ne.2 (by omega)
 have g2:((fuel+1:Nat):Int) - 1=(fuel:Int):=by omega
 clear hd
 go_enter Tryz.func239,Tryz.ntmps239
 go_wp2
 exact bodyPost_ret (v := .bool true) (by simp[results,Tryz.results239,go_sem]) rfl ⟨rfl,(uh HZ).1,(uh HZ).2⟩
theorem dpays0 (D:Nat) (E:Sp.Ev) (T:List Int) (w:World) (h:DogS w D E T 0 false) :
  Calls Tryz.prog 239 #[.pointer (some ⟨D,0,none⟩)] w fun e w'=>e = .returned (.bool false)∧DogS w' D E T (-1) true∧Below D w w':=by
 obtain⟨x,hd⟩:=h
 have HD:=hde hd
 have hlt:=hd.lt
 have e1:=hd.fu
 have f1:=hd.fz 10
 have e2:=hd.fa
 have f2:=hd.fz 11
 have HZ:Hid (DogS ((w.setCell ⟨D,11,none⟩ (.bool true)).setCell ⟨D,10,none⟩ (.int .i64 (-1))) D E T (-1) true∧Below D w ((w.setCell ⟨D,11,none⟩ (.bool true)).setCell ⟨D,10,none⟩ (.int .i64 (-1)))):=
  ⟨⟨_,((uh HD).fai true).fue (-1)⟩,((Below.refl D w).setCell (p:=⟨D,11,none⟩) nlr _).setCell (p:=⟨D,10,none⟩) nlr _⟩
 clear hd
 go_enter Tryz.func239,Tryz.ntmps239
 go_wp2
 exact bodyPost_ret (v := .bool false) (by simp[results,Tryz.results239,go_sem]) rfl ⟨rfl,(uh HZ).1,(uh HZ).2⟩
theorem dflag (b:Bool) (w:World):Calls Tryz.prog 296 #[.bool b] w fun e w'=>e = .returned (.int .i64 (if b=true then 1 else 0))∧w'=w:=by
 cases b with
 | true =>
  go_enter Tryz.func296,Tryz.ntmps296
  go_wp2
  go_ret
  exact⟨rfl,rfl⟩
 | false =>
  go_enter Tryz.func296,Tryz.ntmps296
  go_wp2
  go_ret
  exact⟨rfl,rfl⟩
def DPost (o:Option (List Int)) (D:Nat) (E:Sp.Ev) (fuel:Int) (w:World) (e:Ending) (w':World):Prop :=
 e = .returned (.tuple #[])∧Below D w w'∧match o with
  | some T=>DogS w' D E T fuel false
  | none=>∃ T,DogS w' D E T fuel true
theorem dfails (D:Nat) (E:Sp.Ev) (T:List Int) (fuel:Int) (w:World) (h:DogS w D E T fuel false) (k:Nat):∃ T,DogS ((w.setCell ⟨D,11,none⟩ (.bool true)).drewN k) D E T fuel true:=by
 obtain⟨x,hd⟩:=h
 exact⟨T,x,(hd.fai true).drewN k⟩
theorem dtwo_add (a b:Int) (D:Nat) (E:Sp.Ev) (T:List Int) (fuel:Int) (w:World) (h:DogS w D E (b :: a :: T) fuel false) (hT:T.length≤1000):Calls Tryz.prog 243 #[.pointer (some ⟨D,0,none⟩),.string ⟨#[43]⟩] w (DPost ((Sp.op2 [43] a b).map (· :: T)) D E fuel w):=by
 have hz:(b == 0)=true∨(b == 0)=false:=by cases (b == 0) <;> simp
 rw[show Sp.op2 [43] a b=some (wrap64 (a+b)) by simp[Sp.op2]]
 rcases hz with hz | hz
 ·go_enter Tryz.func243,Tryz.ntmps243
  go_wp2_with fail
  refine(dpop b D E (a :: T) fuel false w h (by simp;omega)).mono ?_
  rintro e w1 ⟨rfl,hd1,hb1⟩
  go_wp2_with fail
  refine(dpop a D E T fuel false w1 hd1 (by omega)).mono ?_
  rintro e w2 ⟨rfl,hd2,hb2⟩
  go_wp2_with fail
  refine(dpush (wrap64 (a+b)) D E T fuel false w2 hd2 (by omega)).mono ?_
  rintro e w4 ⟨rfl,hd4,hb4⟩
  go_wp2
  exact bodyPost_end (results_none rfl _ _ _) rfl ⟨rfl,(hb1.trans hb2).trans hb4,hd4⟩
 ·go_enter Tryz.func243,Tryz.ntmps243
  go_wp2_with fail
  refine(dpop b D E (a :: T) fuel false w h (by simp;omega)).mono ?_
  rintro e w1 ⟨rfl,hd1,hb1⟩
  go_wp2_with fail
  refine(dpop a D E T fuel false w1 hd1 (by omega)).mono ?_
  rintro e w2 ⟨rfl,hd2,hb2⟩
  go_wp2_with fail
  refine(dpush (wrap64 (a+b)) D E T fuel false w2 hd2 (by omega)).mono ?_
  rintro e w4 ⟨rfl,hd4,hb4⟩
  go_wp2
  exact bodyPost_end (results_none rfl _ _ _) rfl ⟨rfl,(hb1.trans hb2).trans hb4,hd4⟩
theorem dtwo_sub (a b:Int) (D:Nat) (E:Sp.Ev) (T:List Int) (fuel:Int) (w:World) (h:DogS w D E (b :: a :: T) fuel false) (hT:T.length≤1000):Calls Tryz.prog 243 #[.pointer (some ⟨D,0,none⟩),.string ⟨#[45]⟩] w (DPost ((Sp.op2 [45] a b).map (· :: T)) D E fuel w):=by
 have hz:(b == 0)=true∨(b == 0)=false:=by cases (b == 0) <;> simp
 rw[show Sp.op2 [45] a b=some (wrap64 (a - b)) by simp[Sp.op2]]
 rcases hz with hz | hz
 ·go_enter Tryz.func243,Tryz.ntmps243
  go_wp2_with fail
  refine(dpop b D E (a :: T) fuel false w h (by simp;omega)).mono ?_
  rintro e w1 ⟨rfl,hd1,hb1⟩
  go_wp2_with fail
  refine(dpop a D E T fuel false w1 hd1 (by omega)).mono ?_
  rintro e w2 ⟨rfl,hd2,hb2⟩
  go_wp2_with fail
  refine(dpush (wrap64 (a - b)) D E T fuel false w2 hd2 (by omega)).mono ?_
  rintro e w4 ⟨rfl,hd4,hb4⟩
  go_wp2
  exact bodyPost_end (results_none rfl _ _ _) rfl ⟨rfl,(hb1.trans hb2).trans hb4,hd4⟩
 ·go_enter Tryz.func243,Tryz.ntmps243
  go_wp2_with fail
  refine(dpop b D E (a :: T) fuel false w h (by simp;omega)).mono ?_
  rintro e w1 ⟨rfl,hd1,hb1⟩
  go_wp2_with fail
  refine(dpop a D E T fuel false w1 hd1 (by omega)).mono ?_
  rintro e w2 ⟨rfl,hd2,hb2⟩
  go_wp2_with fail
  refine(dpush (wrap64 (a - b)) D E T fuel false w2 hd2 (by omega)).mono ?_
  rintro e w4 ⟨rfl,hd4,hb4⟩
  go_wp2
  exact bodyPost_end (results_none rfl _ _ _) rfl ⟨rfl,(hb1.trans hb2).trans hb4,hd4⟩
theorem dtwo_mul (a b:Int) (D:Nat) (E:Sp.Ev) (T:List Int) (fuel:Int) (w:World) (h:DogS w D E (b :: a :: T) fuel false) (hT:T.length≤1000):Calls Tryz.prog 243 #[.pointer (some ⟨D,0,none⟩),.string ⟨#[42]⟩] w (DPost ((Sp.op2 [42] a b).map (· :: T)) D E fuel w):=by
 have hz:(b == 0)=true∨(b == 0)=false:=by cases (b == 0) <;> simp
 rw[show Sp.op2 [42] a b=some (wrap64 (a * b)) by simp[Sp.op2]]
 rcases hz with hz | hz
 ·go_enter Tryz.func243,Tryz.ntmps243
  go_wp2_with fail
  refine(dpop b D E (a :: T) fuel false w h (by simp;omega)).mono ?_
  rintro e w1 ⟨rfl,hd1,hb1⟩
  go_wp2_with fail
  refine(dpop a D E T fuel false w1 hd1 (by omega)).mono ?_
  rintro e w2 ⟨rfl,hd2,hb2⟩
  go_wp2_with fail
  refine(dpush (wrap64 (a * b)) D E T fuel false w2 hd2 (by omega)).mono ?_
  rintro e w4 ⟨rfl,hd4,hb4⟩
  go_wp2
  exact bodyPost_end (results_none rfl _ _ _) rfl ⟨rfl,(hb1.trans hb2).trans hb4,hd4⟩
 ·go_enter Tryz.func243,Tryz.ntmps243
  go_wp2_with fail
  refine(dpop b D E (a :: T) fuel false w h (by simp;omega)).mono ?_
  rintro e w1 ⟨rfl,hd1,hb1⟩
  go_wp2_with fail
  refine(dpop a D E T fuel false w1 hd1 (by omega)).mono ?_
  rintro e w2 ⟨rfl,hd2,hb2⟩
  go_wp2_with fail
  refine(dpush (wrap64 (a * b)) D E T fuel false w2 hd2 (by omega)).mono ?_
  rintro e w4 ⟨rfl,hd4,hb4⟩
  go_wp2
  exact bodyPost_end (results_none rfl _ _ _) rfl ⟨rfl,(hb1.trans hb2).trans hb4,hd4⟩
theorem dtwo_quo (a b:Int) (D:Nat) (E:Sp.Ev) (T:List Int) (fuel:Int) (w:World) (h:DogS w D E (b :: a :: T) fuel false) (hT:T.length≤1000):Calls Tryz.prog 243 #[.pointer (some ⟨D,0,none⟩),.string ⟨#[47]⟩] w (DPost ((Sp.op2 [47] a b).map (· :: T)) D E fuel w):=by
 by_cases hz:b=0
 ·subst hz
  rw[show Sp.op2 [47] a 0=none by simp[Sp.op2]]
  go_enter Tryz.func243,Tryz.ntmps243
  go_wp2_with fail
  refine(dpop 0 D E (a :: T) fuel false w h (by simp;omega)).mono ?_
  rintro e w1 ⟨rfl,hd1,hb1⟩
  go_wp2_with fail
  refine(dpop a D E T fuel false w1 hd1 (by omega)).mono ?_
  rintro e w2 ⟨rfl,hd2,hb2⟩
  have HX:=hde (dfails D E T fuel w2 hd2)
  obtain⟨x,hx⟩:=hd2
  have k1:=hx.fa
  have k2:=hx.fz 11
  clear hx
  go_wp2
  exact bodyPost_ret (results_none rfl _ _ _) rfl ⟨rfl,((hb1.trans hb2).setCell (p:=⟨D,11,none⟩) nlr _),uh HX 0⟩
 ·have hz2:(b == 0)=false:=beq_eq_false_iff_ne.2 hz
  rw[show Sp.op2 [47] a b=some (wrap64 (a.tdiv b)) by simp[Sp.op2,hz]]
  go_enter Tryz.func243,Tryz.ntmps243
  go_wp2_with fail
  refine(dpop b D E (a :: T) fuel false w h (by simp;omega)).mono ?_
  rintro e w1 ⟨rfl,hd1,hb1⟩
  go_wp2_with fail
  refine(dpop a D E T fuel false w1 hd1 (by omega)).mono ?_
  rintro e w2 ⟨rfl,hd2,hb2⟩
  go_wp2_with fail
  refine(dpush (wrap64 (a.tdiv b)) D E T fuel false w2 hd2 (by omega)).mono ?_
  rintro e w4 ⟨rfl,hd4,hb4⟩
  go_wp2
  exact bodyPost_end (results_none rfl _ _ _) rfl ⟨rfl,(hb1.trans hb2).trans hb4,hd4⟩
theorem dtwo_rem (a b:Int) (D:Nat) (E:Sp.Ev) (T:List Int) (fuel:Int) (w:World) (h:DogS w D E (b :: a :: T) fuel false) (hT:T.length≤1000):Calls Tryz.prog 243 #[.pointer (some ⟨D,0,none⟩),.string ⟨#[37]⟩] w (DPost ((Sp.op2 [37] a b).map (· :: T)) D E fuel w):=by
 by_cases hz:b=0
 ·subst hz
  rw[show Sp.op2 [37] a 0=none by simp[Sp.op2]]
  go_enter Tryz.func243,Tryz.ntmps243
  go_wp2_with fail
  refine(dpop 0 D E (a :: T) fuel false w h (by simp;omega)).mono ?_
  rintro e w1 ⟨rfl,hd1,hb1⟩
  go_wp2_with fail
  refine(dpop a D E T fuel false w1 hd1 (by omega)).mono ?_
  rintro e w2 ⟨rfl,hd2,hb2⟩
  have HX:=hde (dfails D E T fuel w2 hd2)
  obtain⟨x,hx⟩:=hd2
  have k1:=hx.fa
  have k2:=hx.fz 11
  clear hx
  go_wp2
  exact bodyPost_ret (results_none rfl _ _ _) rfl ⟨rfl,((hb1.trans hb2).setCell (p:=⟨D,11,none⟩) nlr _),uh HX 0⟩
 ·have hz2:(b == 0)=false:=beq_eq_false_iff_ne.2 hz
  rw[show Sp.op2 [37] a b=some (a.tmod b) by simp[Sp.op2,hz]]
  go_enter Tryz.func243,Tryz.ntmps243
  go_wp2_with fail
  refine(dpop b D E (a :: T) fuel false w h (by simp;omega)).mono ?_
  rintro e w1 ⟨rfl,hd1,hb1⟩
  go_wp2_with fail
  refine(dpop a D E T fuel false w1 hd1 (by omega)).mono ?_
  rintro e w2 ⟨rfl,hd2,hb2⟩
  go_wp2_with fail
  refine(dpush (a.tmod b) D E T fuel false w2 hd2 (by omega)).mono ?_
  rintro e w4 ⟨rfl,hd4,hb4⟩
  go_wp2
  exact bodyPost_end (results_none rfl _ _ _) rfl ⟨rfl,(hb1.trans hb2).trans hb4,hd4⟩
theorem dtwo_lss (a b:Int) (D:Nat) (E:Sp.Ev) (T:List Int) (fuel:Int) (w:World) (h:DogS w D E (b :: a :: T) fuel false) (hT:T.length≤1000):Calls Tryz.prog 243 #[.pointer (some ⟨D,0,none⟩),.string ⟨#[60]⟩] w (DPost ((Sp.op2 [60] a b).map (· :: T)) D E fuel w):=by
 have hz:(b == 0)=true∨(b == 0)=false:=by cases (b == 0) <;> simp
 rw[show Sp.op2 [60] a b=some (if (decide (a < b))=true then 1 else 0) by simp[Sp.op2]]
 generalize hq:(if (decide (a < b))=true then (1:Int) else 0)=v
 replace hq:=hde hq
 rcases hz with hz | hz
 ·go_enter Tryz.func243,Tryz.ntmps243
  go_wp2_with fail
  refine(dpop b D E (a :: T) fuel false w h (by simp;omega)).mono ?_
  rintro e w1 ⟨rfl,hd1,hb1⟩
  go_wp2_with fail
  refine(dpop a D E T fuel false w1 hd1 (by omega)).mono ?_
  rintro e w2 ⟨rfl,hd2,hb2⟩
  go_wp2_with fail
  refine(dflag (decide (a < b)) w2).mono ?_
  rintro e w3 ⟨rfl,hw3⟩
  obtain rfl:=hw3.symm
  rw[uh hq]
  go_wp2_with fail
  refine(dpush v D E T fuel false w2 hd2 (by omega)).mono ?_
  rintro e w4 ⟨rfl,hd4,hb4⟩
  go_wp2
  exact bodyPost_end (results_none rfl _ _ _) rfl ⟨rfl,(hb1.trans hb2).trans hb4,hd4⟩
 ·go_enter Tryz.func243,Tryz.ntmps243
  go_wp2_with fail
  refine(dpop b D E (a :: T) fuel false w h (by simp;omega)).mono ?_
  rintro e w1 ⟨rfl,hd1,hb1⟩
  go_wp2_with fail
  refine(dpop a D E T fuel false w1 hd1 (by omega)).mono ?_
  rintro e w2 ⟨rfl,hd2,hb2⟩
  go_wp2_with fail
  refine(dflag (decide (a < b)) w2).mono ?_
  rintro e w3 ⟨rfl,hw3⟩
  obtain rfl:=hw3.symm
  rw[uh hq]
  go_wp2_with fail
  refine(dpush v D E T fuel false w2 hd2 (by omega)).mono ?_
  rintro e w4 ⟨rfl,hd4,hb4⟩
  go_wp2
  exact bodyPost_end (results_none rfl _ _ _) rfl ⟨rfl,(hb1.trans hb2).trans hb4,hd4⟩
theorem dtwo_eql (a b:Int) (D:Nat) (E:Sp.Ev) (T:List Int) (fuel:Int) (w:World) (h:DogS w D E (b :: a :: T) fuel false) (hT:T.length≤1000):Calls Tryz.prog 243 #[.pointer (some ⟨D,0,none⟩),.string ⟨#[61]⟩] w (DPost ((Sp.op2 [61] a b).map (· :: T)) D E fuel w):=by
 have hz:(b == 0)=true∨(b == 0)=false:=by cases (b == 0) <;> simp
 rw[show Sp.op2 [61] a b=some (if (a == b)=true then 1 else 0) by simp[Sp.op2]]
 generalize hq:(if (a == b)=true then (1:Int) else 0)=v
 replace hq:=hde hq
 rcases hz with hz | hz
 ·go_enter Tryz.func243,Tryz.ntmps243
  go_wp2_with fail
  refine(dpop b D E (a :: T) fuel false w h (by simp;omega)).mono ?_
  rintro e w1 ⟨rfl,hd1,hb1⟩
  go_wp2_with fail
  refine(dpop a D E T fuel false w1 hd1 (by omega)).mono ?_
  rintro e w2 ⟨rfl,hd2,hb2⟩
  go_wp2_with fail
  refine(dflag (a == b) w2).mono ?_
  rintro e w3 ⟨rfl,hw3⟩
  obtain rfl:=hw3.symm
  rw[uh hq]
  go_wp2_with fail
  refine(dpush v D E T fuel false w2 hd2 (by omega)).mono ?_
  rintro e w4 ⟨rfl,hd4,hb4⟩
  go_wp2
  exact bodyPost_end (results_none rfl _ _ _) rfl ⟨rfl,(hb1.trans hb2).trans hb4,hd4⟩
 ·go_enter Tryz.func243,Tryz.ntmps243
  go_wp2_with fail
  refine(dpop b D E (a :: T) fuel false w h (by simp;omega)).mono ?_
  rintro e w1 ⟨rfl,hd1,hb1⟩
  go_wp2_with fail
  refine(dpop a D E T fuel false w1 hd1 (by omega)).mono ?_
  rintro e w2 ⟨rfl,hd2,hb2⟩
  go_wp2_with fail
  refine(dflag (a == b) w2).mono ?_
  rintro e w3 ⟨rfl,hw3⟩
  obtain rfl:=hw3.symm
  rw[uh hq]
  go_wp2_with fail
  refine(dpush v D E T fuel false w2 hd2 (by omega)).mono ?_
  rintro e w4 ⟨rfl,hd4,hb4⟩
  go_wp2
  exact bodyPost_end (results_none rfl _ _ _) rfl ⟨rfl,(hb1.trans hb2).trans hb4,hd4⟩
theorem dtwo_min (a b:Int) (D:Nat) (E:Sp.Ev) (T:List Int) (fuel:Int) (w:World) (h:DogS w D E (b :: a :: T) fuel false) (hT:T.length≤1000):Calls Tryz.prog 243 #[.pointer (some ⟨D,0,none⟩),.string ⟨#[109,105,110]⟩] w (DPost ((Sp.op2 [109,105,110] a b).map (· :: T)) D E fuel w):=by
 have hz:(b == 0)=true∨(b == 0)=false:=by cases (b == 0) <;> simp
 by_cases hc:b < a
 ·rw[show Sp.op2 [109,105,110] a b=some (b) by simp[Sp.op2];omega]
  rcases hz with hz | hz
  ·go_enter Tryz.func243,Tryz.ntmps243
   go_wp2_with fail
   refine(dpop b D E (a :: T) fuel false w h (by simp;omega)).mono ?_
   rintro e w1 ⟨rfl,hd1,hb1⟩
   go_wp2_with fail
   refine(dpop a D E T fuel false w1 hd1 (by omega)).mono ?_
   rintro e w2 ⟨rfl,hd2,hb2⟩
   go_wp2_with fail
   refine(dpush b D E T fuel false w2 hd2 (by omega)).mono ?_
   rintro e w4 ⟨rfl,hd4,hb4⟩
   go_wp2
   exact bodyPost_end (results_none rfl _ _ _) rfl ⟨rfl,(hb1.trans hb2).trans hb4,hd4⟩
  ·go_enter Tryz.func243,Tryz.ntmps243
   go_wp2_with fail
   refine(dpop b D E (a :: T) fuel false w h (by simp;omega)).mono ?_
   rintro e w1 ⟨rfl,hd1,hb1⟩
   go_wp2_with fail
   refine(dpop a D E T fuel false w1 hd1 (by omega)).mono ?_
   rintro e w2 ⟨rfl,hd2,hb2⟩
   go_wp2_with fail
   refine(dpush b D E T fuel false w2 hd2 (by omega)).mono ?_
   rintro e w4 ⟨rfl,hd4,hb4⟩
   go_wp2
   exact bodyPost_end (results_none rfl _ _ _) rfl ⟨rfl,(hb1.trans hb2).trans hb4,hd4⟩
 ·rw[show Sp.op2 [109,105,110] a b=some (a) by simp[Sp.op2];omega]
  rcases hz with hz | hz
  ·go_enter Tryz.func243,Tryz.ntmps243
   go_wp2_with fail
   refine(dpop b D E (a :: T) fuel false w h (by simp;omega)).mono ?_
   rintro e w1 ⟨rfl,hd1,hb1⟩
   go_wp2_with fail
   refine(dpop a D E T fuel false w1 hd1 (by omega)).mono ?_
   rintro e w2 ⟨rfl,hd2,hb2⟩
   go_wp2_with fail
   refine(dpush a D E T fuel false w2 hd2 (by omega)).mono ?_
   rintro e w4 ⟨rfl,hd4,hb4⟩
   go_wp2
   exact bodyPost_end (results_none rfl _ _ _) rfl ⟨rfl,(hb1.trans hb2).trans hb4,hd4⟩
  ·go_enter Tryz.func243,Tryz.ntmps243
   go_wp2_with fail
   refine(dpop b D E (a :: T) fuel false w h (by simp;omega)).mono ?_
   rintro e w1 ⟨rfl,hd1,hb1⟩
   go_wp2_with fail
   refine(dpop a D E T fuel false w1 hd1 (by omega)).mono ?_
   rintro e w2 ⟨rfl,hd2,hb2⟩
   go_wp2_with fail
   refine(dpush a D E T fuel false w2 hd2 (by omega)).mono ?_
   rintro e w4 ⟨rfl,hd4,hb4⟩
   go_wp2
   exact bodyPost_end (results_none rfl _ _ _) rfl ⟨rfl,(hb1.trans hb2).trans hb4,hd4⟩
theorem dtwo_max (a b:Int) (D:Nat) (E:Sp.Ev) (T:List Int) (fuel:Int) (w:World) (h:DogS w D E (b :: a :: T) fuel false) (hT:T.length≤1000):Calls Tryz.prog 243 #[.pointer (some ⟨D,0,none⟩),.string ⟨#[109,97,120]⟩] w (DPost ((Sp.op2 [109,97,120] a b).map (· :: T)) D E fuel w):=by
 have hz:(b == 0)=true∨(b == 0)=false:=by cases (b == 0) <;> simp
 by_cases hc:a < b
 ·rw[show Sp.op2 [109,97,120] a b=some (b) by simp[Sp.op2];omega]
  rcases hz with hz | hz
  ·go_enter Tryz.func243,Tryz.ntmps243
   go_wp2_with fail
   refine(dpop b D E (a :: T) fuel false w h (by simp;omega)).mono ?_
   rintro e w1 ⟨rfl,hd1,hb1⟩
   go_wp2_with fail
   refine(dpop a D E T fuel false w1 hd1 (by omega)).mono ?_
   rintro e w2 ⟨rfl,hd2,hb2⟩
   go_wp2_with fail
   refine(dpush b D E T fuel false w2 hd2 (by omega)).mono ?_
   rintro e w4 ⟨rfl,hd4,hb4⟩
   go_wp2
   exact bodyPost_end (results_none rfl _ _ _) rfl ⟨rfl,(hb1.trans hb2).trans hb4,hd4⟩
  ·go_enter Tryz.func243,Tryz.ntmps243
   go_wp2_with fail
   refine(dpop b D E (a :: T) fuel false w h (by simp;omega)).mono ?_
   rintro e w1 ⟨rfl,hd1,hb1⟩
   go_wp2_with fail
   refine(dpop a D E T fuel false w1 hd1 (by omega)).mono ?_
   rintro e w2 ⟨rfl,hd2,hb2⟩
   go_wp2_with fail
   refine(dpush b D E T fuel false w2 hd2 (by omega)).mono ?_
   rintro e w4 ⟨rfl,hd4,hb4⟩
   go_wp2
   exact bodyPost_end (results_none rfl _ _ _) rfl ⟨rfl,(hb1.trans hb2).trans hb4,hd4⟩
 ·rw[show Sp.op2 [109,97,120] a b=some (a) by simp[Sp.op2];omega]
  rcases hz with hz | hz
  ·go_enter Tryz.func243,Tryz.ntmps243
   go_wp2_with fail
   refine(dpop b D E (a :: T) fuel false w h (by simp;omega)).mono ?_
   rintro e w1 ⟨rfl,hd1,hb1⟩
   go_wp2_with fail
   refine(dpop a D E T fuel false w1 hd1 (by omega)).mono ?_
   rintro e w2 ⟨rfl,hd2,hb2⟩
   go_wp2_with fail
   refine(dpush a D E T fuel false w2 hd2 (by omega)).mono ?_
   rintro e w4 ⟨rfl,hd4,hb4⟩
   go_wp2
   exact bodyPost_end (results_none rfl _ _ _) rfl ⟨rfl,(hb1.trans hb2).trans hb4,hd4⟩
  ·go_enter Tryz.func243,Tryz.ntmps243
   go_wp2_with fail
   refine(dpop b D E (a :: T) fuel false w h (by simp;omega)).mono ?_
   rintro e w1 ⟨rfl,hd1,hb1⟩
   go_wp2_with fail
   refine(dpop a D E T fuel false w1 hd1 (by omega)).mono ?_
   rintro e w2 ⟨rfl,hd2,hb2⟩
   go_wp2_with fail
   refine(dpush a D E T fuel false w2 hd2 (by omega)).mono ?_
   rintro e w4 ⟨rfl,hd4,hb4⟩
   go_wp2
   exact bodyPost_end (results_none rfl _ _ _) rfl ⟨rfl,(hb1.trans hb2).trans hb4,hd4⟩
theorem dtwo (x:ByteArray) (hx:x.data.toList ∈ Sp.twosL) (a b:Int) (D:Nat) (E:Sp.Ev) (T:List Int) (fuel:Int) (w:World) (h:DogS w D E (b :: a :: T) fuel false) (hT:T.length≤1000):Calls Tryz.prog 243 #[.pointer (some ⟨D,0,none⟩),.string x] w (DPost ((Sp.op2 x.data.toList a b).map (· :: T)) D E fuel w):=by
 obtain⟨⟨l⟩⟩:=x
 simp only[Sp.twosL,List.mem_cons,List.not_mem_nil,or_false] at hx
 rcases hx with rfl | rfl | rfl | rfl | rfl | rfl | rfl | rfl | rfl
 ·exact dtwo_add a b D E T fuel w h hT
 ·exact dtwo_sub a b D E T fuel w h hT
 ·exact dtwo_mul a b D E T fuel w h hT
 ·exact dtwo_quo a b D E T fuel w h hT
 ·exact dtwo_rem a b D E T fuel w h hT
 ·exact dtwo_lss a b D E T fuel w h hT
 ·exact dtwo_eql a b D E T fuel w h hT
 ·exact dtwo_min a b D E T fuel w h hT
 ·exact dtwo_max a b D E T fuel w h hT
theorem dturn_dup (a:Int) (D:Nat) (E:Sp.Ev) (T:List Int) (fuel:Int) (w:World) (h:DogS w D E (a :: T) fuel false) (hT:T.length≤1000):Calls Tryz.prog 244 #[.pointer (some ⟨D,0,none⟩),.string ⟨#[100,117,112]⟩] w (DPost (Sp.weff E [100,117,112] (a :: T)) D E fuel w):=by
 rw[show Sp.weff E [100,117,112] (a :: T)=some (a :: a :: T) by unfold Sp.weff;rw[show Sp.number [100,117,112]=none by decide];simp[Sp.loadsL,Sp.twosL]]
 go_enter Tryz.func244,Tryz.ntmps244
 go_wp2_with fail
 refine(dpop a D E (T) fuel false w h (by(try simp);omega)).mono ?_
 rintro e w1 ⟨rfl,hd1,hb1⟩
 go_wp2_with fail
 refine(dpush a D E (T) fuel false w1 hd1 (by(try simp);omega)).mono ?_
 rintro e w2 ⟨rfl,hd2,hb2⟩
 go_wp2_with fail
 refine(dpush a D E (a :: T) fuel false w2 hd2 (by(try simp);omega)).mono ?_
 rintro e w3 ⟨rfl,hd3,hb3⟩
 go_wp2
 exact bodyPost_end (results_none rfl _ _ _) rfl ⟨rfl,((hb1).trans hb2).trans hb3,hd3⟩
theorem dturn_drop (a:Int) (D:Nat) (E:Sp.Ev) (T:List Int) (fuel:Int) (w:World) (h:DogS w D E (a :: T) fuel false) (hT:T.length≤1000):Calls Tryz.prog 244 #[.pointer (some ⟨D,0,none⟩),.string ⟨#[100,114,111,112]⟩] w (DPost (Sp.weff E [100,114,111,112] (a :: T)) D E fuel w):=by
 rw[show Sp.weff E [100,114,111,112] (a :: T)=some (T) by unfold Sp.weff;rw[show Sp.number [100,114,111,112]=none by decide];simp[Sp.loadsL,Sp.twosL]]
 go_enter Tryz.func244,Tryz.ntmps244
 go_wp2_with fail
 refine(dpop a D E (T) fuel false w h (by(try simp);omega)).mono ?_
 rintro e w1 ⟨rfl,hd1,hb1⟩
 go_wp2
 exact bodyPost_end (results_none rfl _ _ _) rfl ⟨rfl,hb1,hd1⟩
theorem dturn_swap (a b:Int) (D:Nat) (E:Sp.Ev) (T:List Int) (fuel:Int) (w:World) (h:DogS w D E (b :: a :: T) fuel false) (hT:T.length≤1000):Calls Tryz.prog 244 #[.pointer (some ⟨D,0,none⟩),.string ⟨#[115,119,97,112]⟩] w (DPost (Sp.weff E [115,119,97,112] (b :: a :: T)) D E fuel w):=by
 rw[show Sp.weff E [115,119,97,112] (b :: a :: T)=some (a :: b :: T) by unfold Sp.weff;rw[show Sp.number [115,119,97,112]=none by decide];simp[Sp.loadsL,Sp.twosL]]
 go_enter Tryz.func244,Tryz.ntmps244
 go_wp2_with fail
 refine(dpop b D E (a :: T) fuel false w h (by(try simp);omega)).mono ?_
 rintro e w1 ⟨rfl,hd1,hb1⟩
 go_wp2_with fail
 refine(dpop a D E (T) fuel false w1 hd1 (by(try simp);omega)).mono ?_
 rintro e w2 ⟨rfl,hd2,hb2⟩
 go_wp2_with fail
 refine(dpush b D E (T) fuel false w2 hd2 (by(try simp);omega)).mono ?_
 rintro e w3 ⟨rfl,hd3,hb3⟩
 go_wp2_with fail
 refine(dpush a D E (b :: T) fuel false w3 hd3 (by(try simp);omega)).mono ?_
 rintro e w4 ⟨rfl,hd4,hb4⟩
 go_wp2
 exact bodyPost_end (results_none rfl _ _ _) rfl ⟨rfl,(((hb1).trans hb2).trans hb3).trans hb4,hd4⟩
theorem dturn_over (a b:Int) (D:Nat) (E:Sp.Ev) (T:List Int) (fuel:Int) (w:World) (h:DogS w D E (b :: a :: T) fuel false) (hT:T.length≤1000):Calls Tryz.prog 244 #[.pointer (some ⟨D,0,none⟩),.string ⟨#[111,118,101,114]⟩] w (DPost (Sp.weff E [111,118,101,114] (b :: a :: T)) D E fuel w):=by
 rw[show Sp.weff E [111,118,101,114] (b :: a :: T)=some (a :: b :: a :: T) by unfold Sp.weff;rw[show Sp.number [111,118,101,114]=none by decide];simp[Sp.loadsL,Sp.twosL]]
 go_enter Tryz.func244,Tryz.ntmps244
 go_wp2_with fail
 refine(dpop b D E (a :: T) fuel false w h (by(try simp);omega)).mono ?_
 rintro e w1 ⟨rfl,hd1,hb1⟩
 go_wp2_with fail
 refine(dpop a D E (T) fuel false w1 hd1 (by(try simp);omega)).mono ?_
 rintro e w2 ⟨rfl,hd2,hb2⟩
 go_wp2_with fail
 refine(dpush a D E (T) fuel false w2 hd2 (by(try simp);omega)).mono ?_
 rintro e w3 ⟨rfl,hd3,hb3⟩
 go_wp2_with fail
 refine(dpush b D E (a :: T) fuel false w3 hd3 (by(try simp);omega)).mono ?_
 rintro e w4 ⟨rfl,hd4,hb4⟩
 go_wp2_with fail
 refine(dpush a D E (b :: a :: T) fuel false w4 hd4 (by(try simp);omega)).mono ?_
 rintro e w5 ⟨rfl,hd5,hb5⟩
 go_wp2
 exact bodyPost_end (results_none rfl _ _ _) rfl ⟨rfl,((((hb1).trans hb2).trans hb3).trans hb4).trans hb5,hd5⟩
theorem dturn_pick (a b c:Int) (D:Nat) (E:Sp.Ev) (T:List Int) (fuel:Int) (w:World) (h:DogS w D E (c :: b :: a :: T) fuel false) (hT:T.length≤1000):Calls Tryz.prog 244 #[.pointer (some ⟨D,0,none⟩),.string ⟨#[63]⟩] w (DPost (Sp.weff E [63] (c :: b :: a :: T)) D E fuel w):=by
 by_cases hcz:a=0
 ·have hcb:(a != 0)=false:=by simp[hcz]
  rw[show Sp.weff E [63] (c :: b :: a :: T)=some (c :: T) by unfold Sp.weff;rw[show Sp.number [63]=none by decide];simp[Sp.loadsL,Sp.twosL,hcz]]
  go_enter Tryz.func244,Tryz.ntmps244
  go_wp2_with fail
  refine(dpop c D E (b :: a :: T) fuel false w h (by(try simp);omega)).mono ?_
  rintro e w1 ⟨rfl,hd1,hb1⟩
  go_wp2_with fail
  refine(dpop b D E (a :: T) fuel false w1 hd1 (by(try simp);omega)).mono ?_
  rintro e w2 ⟨rfl,hd2,hb2⟩
  go_wp2_with fail
  refine(dpop a D E (T) fuel false w2 hd2 (by(try simp);omega)).mono ?_
  rintro e w3 ⟨rfl,hd3,hb3⟩
  go_wp2_with fail
  refine(dpush c D E (T) fuel false w3 hd3 (by(try simp);omega)).mono ?_
  rintro e w4 ⟨rfl,hd4,hb4⟩
  go_wp2
  exact bodyPost_end (results_none rfl _ _ _) rfl ⟨rfl,(((hb1).trans hb2).trans hb3).trans hb4,hd4⟩
 ·have hcb:(a != 0)=true:=by simp[hcz]
  rw[show Sp.weff E [63] (c :: b :: a :: T)=some (b :: T) by unfold Sp.weff;rw[show Sp.number [63]=none by decide];simp[Sp.loadsL,Sp.twosL,hcz]]
  go_enter Tryz.func244,Tryz.ntmps244
  go_wp2_with fail
  refine(dpop c D E (b :: a :: T) fuel false w h (by(try simp);omega)).mono ?_
  rintro e w1 ⟨rfl,hd1,hb1⟩
  go_wp2_with fail
  refine(dpop b D E (a :: T) fuel false w1 hd1 (by(try simp);omega)).mono ?_
  rintro e w2 ⟨rfl,hd2,hb2⟩
  go_wp2_with fail
  refine(dpop a D E (T) fuel false w2 hd2 (by(try simp);omega)).mono ?_
  rintro e w3 ⟨rfl,hd3,hb3⟩
  go_wp2_with fail
  refine(dpush b D E (T) fuel false w3 hd3 (by(try simp);omega)).mono ?_
  rintro e w4 ⟨rfl,hd4,hb4⟩
  go_wp2
  exact bodyPost_end (results_none rfl _ _ _) rfl ⟨rfl,(((hb1).trans hb2).trans hb3).trans hb4,hd4⟩
theorem dstands (x:ByteArray) (hx:x.data.toList ∈ Sp.loadsL∨x.data.toList=[119,101,105,103,104,116]) (E:Sp.Ev) (w:World):Calls Tryz.prog 242 #[.agg #[.int .i64 E.value,.int .i64 E.old,.int .i64 E.inn,.int .i64 E.got,.int .i64 E.step,.int .i64 E.id,.int .i64 E.deg,.int .i64 E.all,.int .i64 E.weight],.string x] w fun e w'=>e = .returned (.int .i64 (Sp.ldv E x.data.toList))∧Below w.heap.size w w':=by
 obtain⟨⟨l⟩⟩:=x
 simp only[Sp.loadsL,List.mem_cons,List.not_mem_nil,or_false] at hx
 rcases hx with (rfl | rfl | rfl | rfl | rfl | rfl | rfl | rfl) | rfl
 all_goals
  simp only[Sp.ldv]
  go_enter Tryz.func242,Tryz.ntmps242
  go_wp2
  go_ret
  exact⟨by simp,(Below.refl _ _).alloc nlr _⟩
end Go.Proofs.YteflnddphpjahaaGreatDoor
