import Derived.Test.YteflnddphpjahaaGreatDoorCmRfB
import Derived.Test.YteflnddphpjahaaGreatDoorCmRqA
import Derived.Maps.AppendAt
import Derived.Laws.OwnMore
set_option linter.unusedVariables false
set_option linter.unusedSimpArgs false
set_option maxRecDepth 100000
set_option maxHeartbeats 16000000
namespace Go.Proofs.YteflnddphpjahaaGreatDoor
open Go.RowKit
theorem Tryz.info_bool:(Tryz.prog.info? 4).map (fun i=>(i.zero,i.size,i.bytes))=some (some (.bool false),1,1):=by kernel_rfl
def Apart (a b:Value):Prop:=a.ownBlock=none∨a.ownBlock≠b.ownBlock
theorem Apart.symm {a b:Value} (h:Apart a b):Apart b a:=by
 rcases h with h | h
 ·cases hb:b.ownBlock with
  | none=>exact Or.inl hb
  | some g=>exact Or.inr (by rw[hb,h];intro e;cases e)
 ·exact Or.inr (fun e=>h e.symm)
theorem Apart.grown {w:World} {B e size n g k cap:Nat} {a b:Value} {xs:List Value} (h:Apart a b) (hb:w.ownsRow B e size b n xs) (hat:a.ownBlock=some g∨g=w.heap.size):Apart (.slice (some ⟨g,0,none⟩) k cap) b:=by
 refine Or.inr (fun hg=>?_)
 have hg':some g=b.ownBlock:=hg
 rcases hat with hat | hat
 ·rcases h with h | h
  ·rw[h] at hat;cases hat
  ·exact h (hat.trans hg')
 ·have:=(hb.lt g hg'.symm).2
  omega
structure CW (w:World) (C:Nat) (vv rr gg ii:Value) (all:Int) (V:List Int) (R:List Bool) (G I:List Int):Prop where
 c0:w.cell? ⟨C,0,none⟩=some vv
 c1:w.cell? ⟨C,1,none⟩=some rr
 c2:w.cell? ⟨C,2,none⟩=some gg
 c3:w.cell? ⟨C,3,none⟩=some ii
 c4:w.cell? ⟨C,4,none⟩=some (.int .i64 all)
 fz:∀ j,w.frozen? ⟨C,j,none⟩=false
 o0:w.ownsRow (C+1) 2 1 vv V.length (V.map (Value.int .i64))
 o1:w.ownsRow (C+1) 4 1 rr R.length (R.map Value.bool)
 o2:w.ownsRow (C+1) 2 1 gg G.length (G.map (Value.int .i64))
 o3:w.ownsRow (C+1) 2 1 ii I.length (I.map (Value.int .i64))
 n01:Apart vv rr
 n02:Apart vv gg
 n03:Apart vv ii
 n12:Apart rr gg
 n13:Apart rr ii
 n23:Apart gg ii
theorem CW.lt {w:World} {C:Nat} {vv rr gg ii:Value} {all:Int} {V:List Int} {R:List Bool} {G I:List Int} (h:CW w C vv rr gg ii all V R G I):C < w.heap.size:=World.block_lt_of_cell? w _ h.c0
theorem CW.below {w w':World} {C:Nat} {vv rr gg ii:Value} {all:Int} {V:List Int} {R:List Bool} {G I:List Int} (h:CW w C vv rr gg ii all V R G I) (hb:Below w.heap.size w w'):CW w' C vv rr gg ii all V R G I :=
 ⟨(hb.cell (p:=⟨C,0,none⟩) h.lt).trans h.c0,(hb.cell (p:=⟨C,1,none⟩) h.lt).trans h.c1,(hb.cell (p:=⟨C,2,none⟩) h.lt).trans h.c2,(hb.cell (p:=⟨C,3,none⟩) h.lt).trans h.c3,(hb.cell (p:=⟨C,4,none⟩) h.lt).trans h.c4,fun j=>(hb.frozen (p:=⟨C,j,none⟩) h.lt).trans (h.fz j),obl h.o0 hb,obl h.o1 hb,obl h.o2 hb,obl h.o3 hb,h.n01,h.n02,h.n03,h.n12,h.n13,h.n23⟩
theorem CW.set3 {w:World} {C g cap i:Nat} {vv rr gg:Value} {all:Int} {V:List Int} {R:List Bool} {G I:List Int} (h:CW w C vv rr gg (.slice (some ⟨g,0,none⟩) I.length cap) all V R G I) (x:Int):CW (w.setCell ⟨g,i,none⟩ (.int .i64 x)) C vv rr gg (.slice (some ⟨g,0,none⟩) I.length cap) all V R G (I.set i x):=by
 have hl:=h.lt
 have hst:=h.o3.stored i (.int .i64 x)
 have hgC:C < g:=(h.o3.lt g rfl).1
 have hne:some C≠(Value.slice (some ⟨g,0,none⟩) I.length cap).ownBlock:=fun e=>by have e':some C=some g:=e;injection e' with e';omega
 have hc:∀ j,(w.setCell ⟨g,i,none⟩ (.int .i64 x)).cell? ⟨C,j,none⟩=w.cell? ⟨C,j,none⟩:=fun j=>hst.2.cell_far ⟨C,j,none⟩ hl hne
 refine⟨(hc 0).trans h.c0,(hc 1).trans h.c1,(hc 2).trans h.c2,(hc 3).trans h.c3,(hc 4).trans h.c4,fun j=>(World.frozen?_setCell _ _ _ _).trans (h.fz j),h.o0.kept hst.2 h.n03,h.o1.kept hst.2 h.n13,h.o2.kept hst.2 h.n23,?_,h.n01,h.n02,h.n03,h.n12,h.n13,h.n23⟩
 have h1:=hst.1
 rw[List.length_set,List.map_set]
 exact h1
theorem CW.all' {w:World} {C:Nat} {vv rr gg ii:Value} {all:Int} {V:List Int} {R:List Bool} {G I:List Int} (h:CW w C vv rr gg ii all V R G I) (x:Int):CW (w.setCell ⟨C,4,none⟩ (.int .i64 x)) C vv rr gg ii x V R G I :=
 ⟨(cso (by omega)).trans h.c0,(cso (by omega)).trans h.c1,(cso (by omega)).trans h.c2,(cso (by omega)).trans h.c3,World.cell?_setCell_same _ _ _ h.c4,fun j=>(World.frozen?_setCell _ _ _ _).trans (h.fz j),((Only.refl C w).set _ _).own h.o0,((Only.refl C w).set _ _).own h.o1,((Only.refl C w).set _ _).own h.o2,((Only.refl C w).set _ _).own h.o3,h.n01,h.n02,h.n03,h.n12,h.n13,h.n23⟩
theorem CW.new {w:World} {C t:Nat} (h:w.heap[C]? = some (.cells #[.slice none 0 0,.slice none 0 0,.slice none 0 0,.slice none 0 0,.int .i64 0] t)):CW w C (.slice none 0 0) (.slice none 0 0) (.slice none 0 0) (.slice none 0 0) 0 [] [] [] []:=
 ⟨by simp[World.cell?,h],by simp[World.cell?,h],by simp[World.cell?,h],by simp[World.cell?,h],by simp[World.cell?,h],fun j=>by simp[World.frozen?,h],World.ownsRow_nil _ _ _ _,World.ownsRow_nil _ _ _ _,World.ownsRow_nil _ _ _ _,World.ownsRow_nil _ _ _ _,Or.inl rfl,Or.inl rfl,Or.inl rfl,Or.inl rfl,Or.inl rfl,Or.inl rfl⟩
structure CRow (w:World) (B:Nat) (vv rr gg ii:Value) (V:List Int) (R:List Bool) (G I:List Int):Prop where
 o0:w.ownsRow B 2 1 vv V.length (V.map (Value.int .i64))
 o1:w.ownsRow B 4 1 rr R.length (R.map Value.bool)
 o2:w.ownsRow B 2 1 gg G.length (G.map (Value.int .i64))
 o3:w.ownsRow B 2 1 ii I.length (I.map (Value.int .i64))
 n01:Apart vv rr
 n02:Apart vv gg
 n03:Apart vv ii
 n12:Apart rr gg
 n13:Apart rr ii
 n23:Apart gg ii
theorem CRow.low {w:World} {B B':Nat} {vv rr gg ii:Value} {V:List Int} {Rs:List Bool} {G I:List Int} (h:CRow w B' vv rr gg ii V Rs G I) (hB:B≤B'):CRow w B vv rr gg ii V Rs G I :=
 ⟨own_low h.o0 hB,own_low h.o1 hB,own_low h.o2 hB,own_low h.o3 hB,h.n01,h.n02,h.n03,h.n12,h.n13,h.n23⟩
theorem CRow.below {w w':World} {B:Nat} {vv rr gg ii:Value} {V:List Int} {Rs:List Bool} {G I:List Int} (h:CRow w B vv rr gg ii V Rs G I) (hb:Below w.heap.size w w'):CRow w' B vv rr gg ii V Rs G I :=
 ⟨obl h.o0 hb,obl h.o1 hb,obl h.o2 hb,obl h.o3 hb,h.n01,h.n02,h.n03,h.n12,h.n13,h.n23⟩
theorem CW.rows {w:World} {C B:Nat} {vv rr gg ii:Value} {all:Int} {V:List Int} {R:List Bool} {G I:List Int} (h:CW w C vv rr gg ii all V R G I) (hB:B≤C+1):CRow w B vv rr gg ii V R G I :=
 ⟨own_low h.o0 hB,own_low h.o1 hB,own_low h.o2 hB,own_low h.o3 hB,h.n01,h.n02,h.n03,h.n12,h.n13,h.n23⟩
theorem wp_join1 {P:Program} {c:Code} {Q:Exit→Act→World→Prop} {a:Act} {w:World} (R:Value→World→Prop) (h:∃ A:Value→Act,c.wp P (noPanR fun x a' w'=>x = .normal∧∃ v,a'=A v∧R v w') a w∧∀ v w',R v w'→Q .normal (A v) w'):c.wp P Q a w:=by
 obtain⟨A,h1,h2⟩:=h
 refine Code.wp_mono (fun e a w h=>?_) h1
 obtain⟨rfl,v,rfl,hr⟩:=noPanR_mono _ _ _ h
 exact h2 _ _ hr
namespace Sp
def endsR (cap:Nat) (c:Cfg) (step:Nat):Int:=if quiet c step=true then 1 else if cap≤step then 2 else 0
end Sp
def pjobA (B:Nat) (pf:Option Addr) (n kf:Nat) (pe:Option Addr) (ke limit:Nat):Array Value := #[.pointer (some ⟨B,0,none⟩),.slice pf n kf,.slice pe n ke,.int .i64 limit]
theorem pending (B:Nat) (pf:Option Addr) (m kf:Nat) (pe:Option Addr) (ke limit step:Nat) (p:Option Addr) (n cap:Nat) (c:Sp.Cfg) (w:World) (hv:VxAt w p c n) (hl:c.val.length=n) (hn:n≤64) (hs:step≤100000) (hlim:limit≤200) :
  Calls Tryz.prog 38 #[.agg (pjobA B pf m kf pe ke limit),pcfgV step p n cap c.all] w fun e w'=>e = .returned (.int .u8 (Sp.endsR limit c step))∧Below w.heap.size w w':=by
 have HQ:=hde (fun W (hb:Below w.heap.size w W)=>pquiet step p n cap c W (hv.below hb) hl hn hs)
 have hb0:Below w.heap.size w ((w.alloc (.cells (pjobA B pf m kf pe ke limit) 86)).alloc (.cells #[.int .i64 (step:Int),.slice p n cap,.int .i64 c.all] 91)):=((Below.refl _ _).alloc nlr _).alloc (by simp) _
 have z1:=World.size_alloc w (.cells (pjobA B pf m kf pe ke limit) 86)
 have hbc:=heap_alloc_new (w.alloc (.cells (pjobA B pf m kf pe ke limit) 86)) (.cells #[.int .i64 (step:Int),.slice p n cap,.int .i64 c.all] 91)
 rw[z1] at hbc
 have hbj:((w.alloc (.cells (pjobA B pf m kf pe ke limit) 86)).alloc (.cells #[.int .i64 (step:Int),.slice p n cap,.int .i64 c.all] 91)).heap[w.heap.size]? = some (.cells (pjobA B pf m kf pe ke limit) 86 (0,0)):=by
  rw[Below.heap_alloc _ _ _ (by rw[z1];omega)]
  exact heap_alloc_new w _
 clear hv hl z1
 obtain⟨q,HQE⟩:∃ q,Hid (Sp.quiet c step=q):=⟨_,rfl⟩
 rw[uh HQE] at HQ
 have HEN:Hid (Sp.endsR limit c step=if q=true then 1 else if limit≤step then 2 else 0):=by show _=_;unfold Sp.endsR;rw[uh HQE]
 unfold pcfgV at HQ ⊢
 unfold pjobA at *
 go_enter Tryz.func38,Tryz.ntmps38
 go_wp2_with fail
 generalize hW:World.alloc (World.alloc _ _) _=W0 at *
 refine(uh HQ W0 hb0).mono ?_
 rintro e w1 ⟨rfl,hb1⟩
 have hC:w1.heap[w.heap.size+1]? = _:=(hb1.block _ (Array.getElem?_eq_some_iff.1 hbc).1).trans hbc
 have hJ:w1.heap[w.heap.size]? = _:=(hb1.block _ (Array.getElem?_eq_some_iff.1 hbj).1).trans hbj
 have c0:w1.cell? ⟨w.heap.size+1,0,none⟩=some (.int .i64 (step:Int)):=by simp[World.cell?,hC]
 have j3:w1.cell? ⟨w.heap.size,3,none⟩=some (.int .i64 (limit:Int)):=by simp[World.cell?,hJ]
 have HB:=hde (hb0.trans (hb1.mono hb0.size))
 clear hW hbc hbj hb0 hb1 hC hJ
 cases q with
 | true =>
  go_wp2
  go_ret
  exact⟨by rw[uh HEN];rfl,uh HB⟩
 | false =>
  by_cases hcs:limit≤step
  ·have hcz:(limit:Int)≤(step:Int):=by omega
   have HE2:Hid (Sp.endsR limit c step=2):=by show _=_;rw[uh HEN,if_neg (by simp),if_pos hcs]
   go_wp2
   go_ret
   exact⟨by rw[uh HE2];rfl,uh HB⟩
  ·have hcz:¬ (limit:Int)≤(step:Int):=by omega
   have HE2:Hid (Sp.endsR limit c step=0):=by show _=_;rw[uh HEN,if_neg (by simp),if_neg hcs]
   go_wp2
   go_ret
   exact⟨by rw[uh HE2];rfl,uh HB⟩
theorem pvalues (step:Nat) (p:Option Addr) (n cap:Nat) (c:Sp.Cfg) (w:World) (hv:VxAt w p c n) (hl:c.val.length=n) (hn:n≤64) :
  Calls Tryz.prog 39 #[pcfgV step p n cap c.all] w fun e w'=>Below w.heap.size w w'∧∃ v,e = .returned v∧w'.ownsRow w.heap.size 2 1 v n (c.val.map (Value.int .i64)):=by
 obtain⟨t2,ht2,hva,hvb,hvc⟩:=info_parts Tryz.info_i64
 have HV:=hde hv
 have HL:=hde hl
 clear hv hl
 unfold pcfgV
 have hb0:Below w.heap.size w (w.alloc (.cells #[.int .i64 (step:Int),.slice p n cap,.int .i64 c.all] 91)):=(Below.refl _ _).alloc nlr _
 have hz0:=World.size_alloc w (.cells #[.int .i64 (step:Int),.slice p n cap,.int .i64 c.all] 91)
 go_enter Tryz.func39,Tryz.ntmps39
 go_wp2_with fail
 generalize hW:World.alloc _ _=W0 at *
 have HZ:=hde hz0
 clear hW hz0
 go_loopw [3,9] (fun vv i wr=>∃ (k:Nat) (v:Value),k≤n∧i = .int .i64 k∧vv=v∧Hid (wr.ownsRow (w.heap.size+1) 2 1 v k ((c.val.take k).map (Value.int .i64)))∧Below (w.heap.size+1) W0 wr) (fun _ i _=>n - (intOf i).toNat)
 case atStart=>exact⟨0,_,Nat.zero_le _,rfl,rfl,World.ownsRow_nil _ _ _ _,Below.refl _ _⟩
 case round =>
  obtain⟨k,v,hk,rfl,hvv,HR,hb⟩:=hrel
  obtain rfl:=hvv.symm
  clear hvv
  have hbw:Below w.heap.size w wr:=hb0.trans (hb.mono (by omega))
  have hzw:w.heap.size+1≤wr.heap.size:=by have:=hb.size;have:=uh HZ;omega
  by_cases hlt:k < n
  ·have hltz:(k:Int) < (n:Int):=by omega
   have g0:(0:Int)≤(k:Int):=Int.natCast_nonneg _
   have hkv:k < c.val.length:=by rw[uh HL];exact hlt
   obtain⟨g,rfl,hg,d0,d1,d2,d3⟩:=((uh HV).below hbw) k hlt
   have HTK:Hid ((c.val.take (k+1)).map (Value.int .i64)=(c.val.take k).map (Value.int .i64)++[.int .i64 (c.val.getD k 0)]):=by
    show _=_
    rw[List.take_succ_eq_append_getElem hkv,List.map_append,List.getD_eq_getElem?_getD,List.getElem?_eq_getElem hkv];rfl
   generalize c.val.getD k 0=x0 at *
   generalize c.rst.getD k false=x1 at *
   generalize c.got.getD k 0=x2 at *
   generalize c.inn.getD k 0=x3 at *
   have hr:=uh HR
   go_wp2_with (first
    | (at_builtin;go_must (refine wpList_append_lies _ rfl (.tmp 13) (.tmp 16) 42 rfl (w.heap.size+1) 2 t2 _ 1 8 Tryz.underlying42 ht2 hva hvb hvc rfl (by omega) v _ _ rfl ((hr.alloc _).alloc _) ⟨wr.heap.size+1,0,none⟩ 1 1 [.int .i64 x0] rfl rfl (by
      intro j u hj
      match j,hj with
      | 0,hj=>simp at hj;subst hj;simp[Addr.add]) (by simp[Value.oneCell']) (by omega) (by unfold maxLen;omega) (by omega) (by simp;omega) (wr.heap.size+1+1) (by simp) ?_;intro g2 cp2 w2 hown hgrow hat hltq))
    | go_in)
   have hb2:Below (w.heap.size+1) W0 w2:=((hb.alloc hzw _).alloc (by simp;omega) _).grown hgrow (by simp;omega) (fun q hq=>(hr.lt q hq).1)
   have HR2:Hid (w2.ownsRow (w.heap.size+1) 2 1 (.slice (some ⟨g2,0,none⟩) (k+1) cp2) (k+1) ((c.val.take (k+1)).map (Value.int .i64))):=by
    show World.ownsRow _ _ _ _ _ _ _
    rw[uh HTK];exact hown
   clear hown hgrow hat hltq hr
   go_roundw
   case rel=>exact⟨k+1,_,by omega,by go_num,rfl,HR2,hb2⟩
   case measure=>simp[intOf];omega
  ·obtain rfl:k=n:=by omega
   have hltz:¬ (k:Int) < (k:Int):=by omega
   have HE:Hid (wr.ownsRow w.heap.size 2 1 v k (c.val.map (Value.int .i64))):=by
    have h:=own_low (uh HR) (Nat.le_succ w.heap.size)
    rw[← uh HL,List.take_length,uh HL] at h
    exact h
   go_wp2
   go_ret
   exact⟨hbw,v,rfl,uh HE⟩
theorem Tryz.info_vertex:(Tryz.prog.info? 131).map (fun i=>(i.zero,i.size,i.bytes))=some (some (.agg #[.int .i64 0,.bool false,.int .i64 0,.int .i64 0]),4,32):=by kernel_rfl
def vxC (V:List Int) (R:List Bool) (G I:List Int) (k:Nat):List Value:=(List.range k).flatMap fun m=>[Value.int .i64 (V.getD m 0),.bool (R.getD m false),.int .i64 (G.getD m 0),.int .i64 (I.getD m 0)]
theorem vxC_succ (V:List Int) (R:List Bool) (G I:List Int) (k:Nat):vxC V R G I (k+1)=vxC V R G I k++[.int .i64 (V.getD k 0),.bool (R.getD k false),.int .i64 (G.getD k 0),.int .i64 (I.getD k 0)]:=by
 unfold vxC
 rw[List.range_succ,List.flatMap_append];simp
structure PCW (w:World) (C:Nat) (step:Int) (sl:Value) (all:Int) (n:Nat) (xs:List Value):Prop where
 c0:w.cell? ⟨C,0,none⟩=some (.int .i64 step)
 c1:w.cell? ⟨C,1,none⟩=some sl
 c2:w.cell? ⟨C,2,none⟩=some (.int .i64 all)
 fz:∀ j,w.frozen? ⟨C,j,none⟩=false
 o:w.ownsRow (C+1) 131 4 sl n xs
theorem PCW.lt {w:World} {C:Nat} {step:Int} {sl:Value} {all:Int} {n:Nat} {xs:List Value} (h:PCW w C step sl all n xs):C < w.heap.size:=World.block_lt_of_cell? w _ h.c0
theorem PCW.below {w w':World} {C:Nat} {step:Int} {sl:Value} {all:Int} {n:Nat} {xs:List Value} (h:PCW w C step sl all n xs) (hb:Below w.heap.size w w'):PCW w' C step sl all n xs :=
 ⟨(hb.cell (p:=⟨C,0,none⟩) h.lt).trans h.c0,(hb.cell (p:=⟨C,1,none⟩) h.lt).trans h.c1,(hb.cell (p:=⟨C,2,none⟩) h.lt).trans h.c2,fun j=>(hb.frozen (p:=⟨C,j,none⟩) h.lt).trans (h.fz j),obl h.o hb⟩
theorem PCW.new {w:World} {C t:Nat} {step all:Int} (h:w.heap[C]? = some (.cells #[.int .i64 step,.slice none 0 0,.int .i64 all] t)):PCW w C step (.slice none 0 0) all 0 []:=
 ⟨by simp[World.cell?,h],by simp[World.cell?,h],by simp[World.cell?,h],fun j=>by simp[World.frozen?,h],World.ownsRow_nil _ _ _ _⟩
theorem PCW.app {w w1:World} {C:Nat} {step:Int} {sl sl':Value} {all:Int} {n:Nat} {xs ys:List Value} (h:PCW w C step sl all n xs) (hg:w.grownBy w1 sl.ownBlock) (ho:w1.ownsRow (C+1) 131 4 sl' (n+1) ys):PCW (w1.setCell ⟨C,1,none⟩ sl') C step sl' all (n+1) ys:=by
 have hl:=h.lt
 have hne:some C≠sl.ownBlock:=fun e=>by have:=(h.o.lt C e.symm).1;omega
 have hc:∀ j,w1.cell? ⟨C,j,none⟩=w.cell? ⟨C,j,none⟩:=fun j=>hg.cell_far ⟨C,j,none⟩ hl hne
 exact⟨(cso (by omega)).trans ((hc 0).trans h.c0),World.cell?_setCell_same _ _ _ ((hc 1).trans h.c1),(cso (by omega)).trans ((hc 2).trans h.c2),fun j=>(World.frozen?_setCell _ _ _ _).trans ((hg.frozen_far ⟨C,j,none⟩ hl hne).trans (h.fz j)),((Only.refl C w1).set _ _).own ho⟩
theorem vxC_len (V:List Int) (R:List Bool) (G I:List Int):∀ n,(vxC V R G I n).length=n * 4:=by
 intro n
 induction n with
 | zero=>rfl
 | succ n ih=>rw[vxC_succ,List.length_append,ih];simp;omega
theorem vxC_get (V:List Int) (R:List Bool) (G I:List Int):∀ n k,k < n→(vxC V R G I n)[k * 4]? = some (.int .i64 (V.getD k 0))∧(vxC V R G I n)[k * 4+1]? = some (.bool (R.getD k false))∧(vxC V R G I n)[k * 4+2]? = some (.int .i64 (G.getD k 0))∧(vxC V R G I n)[k * 4+3]? = some (.int .i64 (I.getD k 0)):=by
 intro n
 induction n with
 | zero=>intro k h;omega
 | succ n ih =>
  intro k h
  rw[vxC_succ]
  have hl:=vxC_len V R G I n
  by_cases hk:k < n
  ·obtain⟨a,b,c,d⟩:=ih k hk
   rw[List.getElem?_append_left (by omega),List.getElem?_append_left (by omega),List.getElem?_append_left (by omega),List.getElem?_append_left (by omega)]
   exact⟨a,b,c,d⟩
  ·obtain rfl:k=n:=by omega
   rw[List.getElem?_append_right (by omega),List.getElem?_append_right (by omega),List.getElem?_append_right (by omega),List.getElem?_append_right (by omega),hl,Nat.sub_self,Nat.add_sub_cancel_left,Nat.add_sub_cancel_left,Nat.add_sub_cancel_left]
   exact⟨rfl,rfl,rfl,rfl⟩
theorem vx_of_own {w:World} {B n:Nat} {sl:Value} {V:List Int} {R:List Bool} {G I:List Int} {all:Int} (h:w.ownsRow B 131 4 sl n (vxC V R G I n)):∃ p cap,sl = .slice p n cap∧VxAt w p ⟨V,R,G,I,all⟩ n:=by
 obtain⟨p,cap,hv,hc⟩:=osl h
 refine⟨p,cap,hv,fun k hk=>?_⟩
 obtain⟨e0,e1,e2,e3⟩:=vxC_get V R G I n k hk
 obtain⟨g,hp,_,hg,c0⟩:=hc (k * 4) (by omega)
 obtain⟨g1,hp1,_,_,c1⟩:=hc (k * 4+1) (by omega)
 obtain⟨g2,hp2,_,_,c2⟩:=hc (k * 4+2) (by omega)
 obtain⟨g3,hp3,_,_,c3⟩:=hc (k * 4+3) (by omega)
 have q1:g1=g:=by rw[hp] at hp1;injection hp1 with q;injection q with q;exact q.symm
 have q2:g2=g:=by rw[hp] at hp2;injection hp2 with q;injection q with q;exact q.symm
 have q3:g3=g:=by rw[hp] at hp3;injection hp3 with q;injection q with q;exact q.symm
 subst q1 q2 q3
 exact⟨_,hp,hg,c0.trans e0,c1.trans e1,c2.trans e2,c3.trans e3⟩
theorem VxAt.congr {w:World} {p:Option Addr} {c c':Sp.Cfg} {n:Nat} (h:VxAt w p c n) (hv:∀ k,k < n→c'.val.getD k 0=c.val.getD k 0) (hr:∀ k,k < n→c'.rst.getD k false=c.rst.getD k false) (hg:∀ k,k < n→c'.got.getD k 0=c.got.getD k 0) (hi:∀ k,k < n→c'.inn.getD k 0=c.inn.getD k 0):VxAt w p c' n:=fun k hk=>by
 rw[hv k hk,hr k hk,hg k hk,hi k hk]
 exact h k hk
theorem two_new (w:World) (a b:Array Value) (ta tb:TypeId):∀ W,W=(w.alloc (.cells a ta)).alloc (.cells b tb)→W.heap[w.heap.size]? = some (.cells a ta (0,0))∧W.heap[w.heap.size+1]? = some (.cells b tb (0,0))∧Below w.heap.size w W∧W.heap.size=w.heap.size+1+1:=by
 rintro W rfl
 have z1:=World.size_alloc w (.cells a ta)
 have z2:=World.size_alloc (w.alloc (.cells a ta)) (.cells b tb)
 have b2:=heap_alloc_new (w.alloc (.cells a ta)) (.cells b tb)
 rw[z1] at b2
 refine⟨?_,b2,((Below.refl _ w).alloc nlr _).alloc (by rw[z1];omega) _,by omega⟩
 rw[Below.heap_alloc _ _ _ (by rw[z1];omega)]
 exact heap_alloc_new w _
theorem flat_congr {α β : Type} {c d : α→List β}:∀ (l:List α),(∀ m ∈ l,c m=d m)→l.flatMap c=l.flatMap d:=by
 intro l
 induction l with
 | nil=>intro _;rfl
 | cons a l ih =>
  intro h
  rw[List.flatMap_cons,List.flatMap_cons,h a (List.mem_cons_self ..),ih (fun m hm=>h m (List.mem_cons_of_mem _ hm))]
theorem flat4_len (c:Nat→List Value) (hc:∀ m,(c m).length=4):∀ n,((List.range n).flatMap c).length=n * 4:=by
 intro n
 induction n with
 | zero=>rfl
 | succ n ih =>
  rw[List.range_succ,List.flatMap_append,List.length_append,ih]
  simp[hc];omega
theorem flat4_set (c:Nat→List Value) (hc:∀ m,(c m).length=4) (i r:Nat) (hr:r < 4) (v:Value):∀ n,i < n→((List.range n).flatMap c).set (i * 4+r) v=(List.range n).flatMap (fun m=>if m=i then (c m).set r v else c m):=by
 intro n
 induction n with
 | zero=>intro h;omega
 | succ n ih =>
  intro hi
  have hl:=flat4_len c hc n
  rw[List.range_succ,List.flatMap_append,List.flatMap_append]
  by_cases h:i < n
  ·rw[List.set_append_left _ _ (by omega),ih h]
   congr 1
   simp only[List.flatMap_cons,List.flatMap_nil,List.append_nil]
   rw[if_neg (by omega)]
  ·obtain rfl:i=n:=by omega
   rw[List.set_append_right _ _ (by omega),hl,Nat.add_sub_cancel_left]
   congr 1
   ·apply flat_congr
    intro m hm
    rw[List.mem_range] at hm
    rw[if_neg (by omega)]
   ·simp only[List.flatMap_cons,List.flatMap_nil,List.append_nil]
    simp
theorem getD_set {α : Type} (V:List α) {i:Nat} (m:Nat) (x d : α) (h:i < V.length):(V.set i x).getD m d=if m=i then x else V.getD m d:=by
 rw[List.getD_eq_getElem?_getD,List.getD_eq_getElem?_getD]
 by_cases c:m=i
 ·subst c;rw[List.getElem?_set_self h,if_pos rfl];rfl
 ·rw[List.getElem?_set_ne (Ne.symm c),if_neg c]
theorem vxC_set0 {V:List Int} {R:List Bool} {G I:List Int} {n i:Nat} (hi:i < n) (hl:i < V.length) (x:Int):(vxC V R G I n).set (i * 4) (.int .i64 x)=vxC (V.set i x) R G I n:=by
 unfold vxC
 have h:=flat4_set (fun m=>[Value.int .i64 (V.getD m 0),.bool (R.getD m false),.int .i64 (G.getD m 0),.int .i64 (I.getD m 0)]) (fun m=>rfl) i 0 (by omega) (.int .i64 x) n hi
 rw[Nat.add_zero] at h
 rw[h]
 apply flat_congr
 intro m _
 rw[getD_set V m x 0 hl]
 by_cases c:m=i
 ·rw[if_pos c,if_pos c];rfl
 ·rw[if_neg c,if_neg c]
theorem vxC_set1 {V:List Int} {R:List Bool} {G I:List Int} {n i:Nat} (hi:i < n) (hl:i < R.length) (x:Bool):(vxC V R G I n).set (i * 4+1) (.bool x)=vxC V (R.set i x) G I n:=by
 unfold vxC
 rw[flat4_set (fun m=>[Value.int .i64 (V.getD m 0),.bool (R.getD m false),.int .i64 (G.getD m 0),.int .i64 (I.getD m 0)]) (fun m=>rfl) i 1 (by omega) (.bool x) n hi]
 apply flat_congr
 intro m _
 rw[getD_set R m x false hl]
 by_cases c:m=i
 ·rw[if_pos c,if_pos c];rfl
 ·rw[if_neg c,if_neg c]
theorem vxC_set2 {V:List Int} {R:List Bool} {G I:List Int} {n i:Nat} (hi:i < n) (hl:i < G.length) (x:Int):(vxC V R G I n).set (i * 4+2) (.int .i64 x)=vxC V R (G.set i x) I n:=by
 unfold vxC
 rw[flat4_set (fun m=>[Value.int .i64 (V.getD m 0),.bool (R.getD m false),.int .i64 (G.getD m 0),.int .i64 (I.getD m 0)]) (fun m=>rfl) i 2 (by omega) (.int .i64 x) n hi]
 apply flat_congr
 intro m _
 rw[getD_set G m x 0 hl]
 by_cases c:m=i
 ·rw[if_pos c,if_pos c];rfl
 ·rw[if_neg c,if_neg c]
theorem vxC_set3 {V:List Int} {R:List Bool} {G I:List Int} {n i:Nat} (hi:i < n) (hl:i < I.length) (x:Int):(vxC V R G I n).set (i * 4+3) (.int .i64 x)=vxC V R G (I.set i x) n:=by
 unfold vxC
 rw[flat4_set (fun m=>[Value.int .i64 (V.getD m 0),.bool (R.getD m false),.int .i64 (G.getD m 0),.int .i64 (I.getD m 0)]) (fun m=>rfl) i 3 (by omega) (.int .i64 x) n hi]
 apply flat_congr
 intro m _
 rw[getD_set I m x 0 hl]
 by_cases c:m=i
 ·rw[if_pos c,if_pos c];rfl
 ·rw[if_neg c,if_neg c]
structure PCS (w:World) (C B g cap n:Nat) (step all:Int) (V:List Int) (R:List Bool) (G I:List Int):Prop where
 c0:w.cell? ⟨C,0,none⟩=some (.int .i64 step)
 c1:w.cell? ⟨C,1,none⟩=some (.slice (some ⟨g,0,none⟩) n cap)
 c2:w.cell? ⟨C,2,none⟩=some (.int .i64 all)
 fz:∀ j,w.frozen? ⟨C,j,none⟩=false
 o:w.ownsRow B 131 4 (.slice (some ⟨g,0,none⟩) n cap) n (vxC V R G I n)
 ne:g≠C
theorem PCS.lt {w:World} {C B g cap n:Nat} {step all:Int} {V:List Int} {R:List Bool} {G I:List Int} (h:PCS w C B g cap n step all V R G I):C < w.heap.size:=World.block_lt_of_cell? w _ h.c0
theorem PCS.ltg {w:World} {C B g cap n:Nat} {step all:Int} {V:List Int} {R:List Bool} {G I:List Int} (h:PCS w C B g cap n step all V R G I):B≤g∧g < w.heap.size:=h.o.lt g rfl
theorem PCS.below {w w':World} {C B g cap n:Nat} {step all:Int} {V:List Int} {R:List Bool} {G I:List Int} (h:PCS w C B g cap n step all V R G I) (hb:Below w.heap.size w w'):PCS w' C B g cap n step all V R G I :=
 ⟨(hb.cell (p:=⟨C,0,none⟩) h.lt).trans h.c0,(hb.cell (p:=⟨C,1,none⟩) h.lt).trans h.c1,(hb.cell (p:=⟨C,2,none⟩) h.lt).trans h.c2,fun j=>(hb.frozen (p:=⟨C,j,none⟩) h.lt).trans (h.fz j),obl h.o hb,h.ne⟩
theorem PCS.cells {w:World} {C B g cap n:Nat} {step all:Int} {V:List Int} {R:List Bool} {G I:List Int} (h:PCS w C B g cap n step all V R G I) {i:Nat} (hi:i < n) :
  w.cell? ⟨g,i * 4,none⟩=some (.int .i64 (V.getD i 0))∧w.cell? ⟨g,i * 4+1,none⟩=some (.bool (R.getD i false))∧w.cell? ⟨g,i * 4+2,none⟩=some (.int .i64 (G.getD i 0))∧w.cell? ⟨g,i * 4+3,none⟩=some (.int .i64 (I.getD i 0)):=by
 obtain⟨e0,e1,e2,e3⟩:=vxC_get V R G I n i hi
 exact⟨(h.o.cellAt _ (by omega)).trans e0,(h.o.cellAt _ (by omega)).trans e1,(h.o.cellAt _ (by omega)).trans e2,(h.o.cellAt _ (by omega)).trans e3⟩
theorem PCS.fzg {w:World} {C B g cap n:Nat} {step all:Int} {V:List Int} {R:List Bool} {G I:List Int} (h:PCS w C B g cap n step all V R G I) (j:Nat):w.frozen? ⟨g,j,none⟩=false:=h.o.frozenAt j
theorem PCS.store {w:World} {C B g cap n:Nat} {step all:Int} {V:List Int} {R:List Bool} {G I:List Int} (h:PCS w C B g cap n step all V R G I) {j:Nat} {v:Value} {V':List Int} {R':List Bool} {G' I':List Int} (he:(vxC V R G I n).set j v=vxC V' R' G' I' n):PCS (w.setCell ⟨g,j,none⟩ v) C B g cap n step all V' R' G' I':=by
 have hne:=h.ne
 refine⟨(cell_blk_other hne).trans h.c0,(cell_blk_other hne).trans h.c1,(cell_blk_other hne).trans h.c2,fun j=>(World.frozen?_setCell _ _ _ _).trans (h.fz j),?_,hne⟩
 have h1:=(h.o.stored j v).1
 rw[he] at h1
 exact h1
theorem PCS.all' {w:World} {C B g cap n:Nat} {step all:Int} {V:List Int} {R:List Bool} {G I:List Int} (h:PCS w C B g cap n step all V R G I) (x:Int):PCS (w.setCell ⟨C,2,none⟩ (.int .i64 x)) C B g cap n step x V R G I:=by
 refine⟨(cso (by omega)).trans h.c0,(cso (by omega)).trans h.c1,World.cell?_setCell_same _ _ _ h.c2,fun j=>(World.frozen?_setCell _ _ _ _).trans (h.fz j),?_,h.ne⟩
 exact ownsRow_setCell_other h.o (a:=⟨C,2,none⟩) (fun e=>by have e':some g=some C:=e;injection e' with e';exact h.ne e') _
structure Save2 (C g:Nat) (w w':World):Prop where
 os:w'.os=w.os
 tape:w'.tape=w.tape
 output:w'.output=w.output
 size:w.heap.size≤w'.heap.size
 block:∀ k,k < w.heap.size→k≠C→k≠g→w'.heap[k]? = w.heap[k]?
theorem Save2.refl (C g:Nat) (w:World):Save2 C g w w:=⟨rfl,rfl,rfl,Nat.le_refl _,fun _ _ _ _=>rfl⟩
theorem Save2.trans {C g:Nat} {a b c:World} (h:Save2 C g a b) (k:Save2 C g b c):Save2 C g a c :=
 ⟨k.os.trans h.os,k.tape.trans h.tape,k.output.trans h.output,Nat.le_trans h.size k.size,fun i hi h1 h2=>(k.block i (Nat.lt_of_lt_of_le hi h.size) h1 h2).trans (h.block i hi h1 h2)⟩
theorem Save2.of_below {C g:Nat} {a b:World} (h:Below a.heap.size a b):Save2 C g a b:=⟨h.os,h.tape,h.output,h.size,fun k hk _ _=>h.block k hk⟩
theorem Save2.set {C g:Nat} {a b:World} (h:Save2 C g a b) {q j:Nat} (hq:q=C∨q=g) (v:Value):Save2 C g a (b.setCell ⟨q,j,none⟩ v):=
 ⟨h.os,h.tape,h.output,by simp[World.setCell];exact h.size,fun k hk h1 h2=>(Below.heap_setCell _ _ _ k (fun e=>by have e':k=q:=e;rcases hq with hq | hq <;> omega)).trans (h.block k hk h1 h2)⟩
theorem Save2.below {C g L:Nat} {a b:World} (h:Save2 C g a b) (h1:L≤C) (h2:L≤g) (h3:L≤a.heap.size):Below L a b :=
 ⟨h.os,h.tape,h.output,h.size,fun k hk=>h.block k (by omega) (by omega) (by omega)⟩
theorem Save2.cell {C g:Nat} {a b:World} (h:Save2 C g a b) {q j:Nat} (hq:q < a.heap.size) (h1:q≠C) (h2:q≠g):b.cell? ⟨q,j,none⟩=a.cell? ⟨q,j,none⟩:=by
 unfold World.cell?;rw[h.block q hq h1 h2]
theorem Tryz.info_edges:(Tryz.prog.info? 63).map (fun i=>(i.zero,i.size,i.bytes))=some (some (.slice none 0 0),1,24):=by kernel_rfl
theorem range_set (f:Nat→Value) (n i:Nat) (v:Value):((List.range n).map f).set i v=(List.range n).map (fun j=>if j=i then v else f j):=by
 apply List.ext_getElem?
 intro j
 by_cases hj:j < n
 ·by_cases e:i=j
  ·subst e
   rw[List.getElem?_set_self (by simpa using hj)]
   simp[hj]
  ·rw[List.getElem?_set_ne e]
   simp[hj,Ne.symm e]
 ·rw[List.getElem?_eq_none (by simp;omega),List.getElem?_eq_none (by simp;omega)]
theorem edCells_snoc (E:List Sp.Ed) (e:Sp.Ed):edCells (E++[e])=edCells E++[Value.int .i64 (e.frm:Int),.int .i64 (e.to:Int),.int .i64 e.n]:=by
 unfold edCells;rw[List.flatMap_append];simp
structure EbV (w:World) (L D n:Nat) (f:Nat→Value) (E:List Sp.Ed):Prop where
 o:w.ownsRow L 63 1 (.slice (some ⟨D,0,none⟩) n n) n ((List.range n).map f)
 own:∀ i,i < n→w.ownsRow L 67 3 (f i) (Sp.outE E i).length (edCells (Sp.outE E i))
 ap:∀ i j,i < n→j < n→i≠j→Apart (f i) (f j)
 nd:∀ i,i < n→(f i).ownBlock≠some D
theorem EbV.lt {w:World} {L D n:Nat} {f:Nat→Value} {E:List Sp.Ed} (h:EbV w L D n f E):L≤D∧D < w.heap.size:=h.o.lt D rfl
theorem EbV.below {w w':World} {L D n:Nat} {f:Nat→Value} {E:List Sp.Ed} (h:EbV w L D n f E) (hb:Below w.heap.size w w'):EbV w' L D n f E :=
 ⟨obl h.o hb,fun i hi=>obl (h.own i hi) hb,h.ap,h.nd⟩
theorem EbV.cell {w:World} {L D n:Nat} {f:Nat→Value} {E:List Sp.Ed} (h:EbV w L D n f E) {i:Nat} (hi:i < n):w.cell? ⟨D,i,none⟩=some (f i):=by
 rw[h.o.cellAt i (by omega)];simp[hi]
theorem EbV.app {w w1:World} {L D n g k cap:Nat} {f:Nat→Value} {E:List Sp.Ed} (h:EbV w L D n f E) (e:Sp.Ed) (he:e.frm < n) (hk:(Sp.outE E e.frm).length=k) (hg:w.grownBy w1 (f e.frm).ownBlock)
  (ho:w1.ownsRow L 67 3 (.slice (some ⟨g,0,none⟩) (k+1) cap) (k+1) (edCells (Sp.outE E e.frm)++[.int .i64 (e.frm:Int),.int .i64 (e.to:Int),.int .i64 e.n])) (hat:(f e.frm).ownBlock=some g∨g=w.heap.size) :
  EbV (w1.setCell ⟨D,e.frm,none⟩ (.slice (some ⟨g,0,none⟩) (k+1) cap)) L D n (fun j=>if j=e.frm then (.slice (some ⟨g,0,none⟩) (k+1) cap) else f j) (E++[e]):=by
 have hD:=h.lt
 have hgD:g≠D:=by
  rintro rfl
  rcases hat with hat | hat
  ·exact h.nd _ he hat
  ·omega
 have hog:(Value.slice (some ⟨g,0,none⟩) (k+1) cap).ownBlock≠some D:=fun q=>by
  have q':some g=some D:=q
  injection q' with q';exact hgD q'
 refine⟨?_,fun i hi=>?_,fun i j hi hj hij=>?_,fun i hi=>?_⟩
 ·have h1:w1.ownsRow L 63 1 (.slice (some ⟨D,0,none⟩) n n) n ((List.range n).map f):=h.o.kept hg (Or.inr (fun q=>h.nd _ he q.symm))
  have h2:=(h1.stored e.frm (.slice (some ⟨g,0,none⟩) (k+1) cap)).1
  rw[range_set] at h2
  exact h2
 ·by_cases c:i=e.frm
  ·subst c
   rw[if_pos rfl]
   have e1:Sp.outE (E++[e]) e.frm=Sp.outE E e.frm++[e]:=by unfold Sp.outE;rw[List.filter_append];simp
   rw[e1,edCells_snoc,List.length_append,hk]
   exact ownsRow_setCell_other ho (a:=⟨D,e.frm,none⟩) hog _
  ·rw[if_neg c]
   have e1:Sp.outE (E++[e]) i=Sp.outE E i:=by unfold Sp.outE;rw[List.filter_append];simp[Ne.symm c]
   rw[e1]
   exact ownsRow_setCell_other ((h.own i hi).kept hg (h.ap i _ hi he c)) (a:=⟨D,e.frm,none⟩) (h.nd i hi) _
 ·by_cases c:i=e.frm
  ·subst c
   rw[if_pos rfl,if_neg (fun q=>hij q.symm)]
   exact(h.ap _ _ hi hj hij).grown (h.own j hj) hat
  ·rw[if_neg c]
   by_cases c2:j=e.frm
   ·subst c2
    rw[if_pos rfl]
    exact((h.ap _ _ hj hi (Ne.symm hij)).grown (h.own i hi) hat).symm
   ·rw[if_neg c2]
    exact h.ap i j hi hj hij
 ·by_cases c:i=e.frm
  ·subst c;rw[if_pos rfl];exact hog
  ·rw[if_neg c];exact h.nd i hi
def EbR (w:World) (pe:Option Addr) (n:Nat) (Es:List Sp.Ed):Prop := ∀ i,i < n→∃ D p cap,pe=some ⟨D,0,none⟩∧D < w.heap.size∧w.cell? ⟨D,i,none⟩=some (.slice p (Sp.outE Es i).length cap)∧EdgesAt w p (Sp.outE Es i)
theorem EbR.below {w w':World} {pe:Option Addr} {n:Nat} {Es:List Sp.Ed} (h:EbR w pe n Es) (hb:Below w.heap.size w w'):EbR w' pe n Es:=fun i hi=>by
 obtain⟨D,p,cap,a,b,c,d⟩:=h i hi
 have:=hb.size
 exact⟨D,p,cap,a,by omega,(hb.cell (p:=⟨D,i,none⟩) b).trans c,d.below hb⟩
theorem EbV.read {w:World} {L D n:Nat} {f:Nat→Value} {E:List Sp.Ed} (h:EbV w L D n f E):EbR w (some ⟨D,0,none⟩) n E:=fun i hi=>by
 obtain⟨p,cap,hv,he⟩:=edges_of_own (h.own i hi)
 exact⟨D,p,cap,rfl,h.lt.2,by rw[h.cell hi,hv],he⟩
theorem EbV.new {w:World} {L D n:Nat} (h:w.ownsRow L 63 1 (.slice (some ⟨D,0,none⟩) n n) n (List.replicate n (.slice none 0 0))):EbV w L D n (fun _=>.slice none 0 0) []:=by
 refine⟨?_,fun i hi=>World.ownsRow_nil _ _ _ _,fun i j _ _ _=>Or.inl rfl,fun i hi q=>by cases q⟩
 have e:(List.range n).map (fun _=>Value.slice none 0 0)=List.replicate n (.slice none 0 0):=by
  rw[List.map_const',List.length_range]
 rw[e];exact h
theorem EbV.low {w:World} {L L' D n:Nat} {f:Nat→Value} {E:List Sp.Ed} (h:EbV w L' D n f E) (hL:L≤L'):EbV w L D n f E :=
 ⟨own_low h.o hL,fun i hi=>own_low (h.own i hi) hL,h.ap,h.nd⟩
theorem EbV.setR {w:World} {L D n R j:Nat} {f:Nat→Value} {E:List Sp.Ed} {v:Value} (h:EbV w L D n f E) (hR:R < L):EbV (w.setCell ⟨R,j,none⟩ v) L D n f E :=
 ⟨ownsRow_setCell_below h.o (a:=⟨R,j,none⟩) hR v,fun i hi=>ownsRow_setCell_below (h.own i hi) (a:=⟨R,j,none⟩) hR v,h.ap,h.nd⟩
def EbPost (n:Nat) (Es:List Sp.Ed) (w:World) (e:Ending) (w':World):Prop :=
 Below w.heap.size w w'∧∃ D f,e = .returned (.slice (some ⟨D,0,none⟩) n n)∧EbV w' w.heap.size D n f Es
theorem grown_set (w:World) (G j:Nat) (v:Value):w.grownBy (w.setCell ⟨G,j,none⟩ v) (some G):=
 ⟨rfl,rfl,rfl,by simp[World.setCell],fun k _ hk=>Below.heap_setCell _ _ _ k (fun e=>hk (by rw[e]))⟩
structure CS (w:World) (C B:Nat) (vv rr gg ii:Value) (all:Int) (V:List Int) (R:List Bool) (G I:List Int):Prop where
 c0:w.cell? ⟨C,0,none⟩=some vv
 c1:w.cell? ⟨C,1,none⟩=some rr
 c2:w.cell? ⟨C,2,none⟩=some gg
 c3:w.cell? ⟨C,3,none⟩=some ii
 c4:w.cell? ⟨C,4,none⟩=some (.int .i64 all)
 fz:∀ j,w.frozen? ⟨C,j,none⟩=false
 o0:w.ownsRow B 2 1 vv V.length (V.map (Value.int .i64))
 o1:w.ownsRow B 4 1 rr R.length (R.map Value.bool)
 o2:w.ownsRow B 2 1 gg G.length (G.map (Value.int .i64))
 o3:w.ownsRow B 2 1 ii I.length (I.map (Value.int .i64))
 n01:Apart vv rr
 n02:Apart vv gg
 n03:Apart vv ii
 n12:Apart rr gg
 n13:Apart rr ii
 n23:Apart gg ii
 m0:vv.ownBlock≠some C
 m1:rr.ownBlock≠some C
 m2:gg.ownBlock≠some C
 m3:ii.ownBlock≠some C
theorem CS.lt {w:World} {C B:Nat} {vv rr gg ii:Value} {all:Int} {V:List Int} {R:List Bool} {G I:List Int} (h:CS w C B vv rr gg ii all V R G I):C < w.heap.size:=World.block_lt_of_cell? w _ h.c0
theorem CS.below {w w':World} {C B:Nat} {vv rr gg ii:Value} {all:Int} {V:List Int} {R:List Bool} {G I:List Int} (h:CS w C B vv rr gg ii all V R G I) (hb:Below w.heap.size w w'):CS w' C B vv rr gg ii all V R G I :=
 ⟨(hb.cell (p:=⟨C,0,none⟩) h.lt).trans h.c0,(hb.cell (p:=⟨C,1,none⟩) h.lt).trans h.c1,(hb.cell (p:=⟨C,2,none⟩) h.lt).trans h.c2,(hb.cell (p:=⟨C,3,none⟩) h.lt).trans h.c3,(hb.cell (p:=⟨C,4,none⟩) h.lt).trans h.c4,fun j=>(hb.frozen (p:=⟨C,j,none⟩) h.lt).trans (h.fz j),obl h.o0 hb,obl h.o1 hb,obl h.o2 hb,obl h.o3 hb,h.n01,h.n02,h.n03,h.n12,h.n13,h.n23,h.m0,h.m1,h.m2,h.m3⟩
theorem CS.set3 {w:World} {C B g cap i:Nat} {vv rr gg:Value} {all:Int} {V:List Int} {R:List Bool} {G I:List Int} (h:CS w C B vv rr gg (.slice (some ⟨g,0,none⟩) I.length cap) all V R G I) (x:Int):CS (w.setCell ⟨g,i,none⟩ (.int .i64 x)) C B vv rr gg (.slice (some ⟨g,0,none⟩) I.length cap) all V R G (I.set i x):=by
 have hl:=h.lt
 have hst:=h.o3.stored i (.int .i64 x)
 have hne:some C≠(Value.slice (some ⟨g,0,none⟩) I.length cap).ownBlock:=fun e=>h.m3 e.symm
 have hc:∀ j,(w.setCell ⟨g,i,none⟩ (.int .i64 x)).cell? ⟨C,j,none⟩=w.cell? ⟨C,j,none⟩:=fun j=>hst.2.cell_far ⟨C,j,none⟩ hl hne
 refine⟨(hc 0).trans h.c0,(hc 1).trans h.c1,(hc 2).trans h.c2,(hc 3).trans h.c3,(hc 4).trans h.c4,fun j=>(World.frozen?_setCell _ _ _ _).trans (h.fz j),h.o0.kept hst.2 h.n03,h.o1.kept hst.2 h.n13,h.o2.kept hst.2 h.n23,?_,h.n01,h.n02,h.n03,h.n12,h.n13,h.n23,h.m0,h.m1,h.m2,h.m3⟩
 have h1:=hst.1
 rw[List.length_set,List.map_set]
 exact h1
theorem CS.all' {w:World} {C B:Nat} {vv rr gg ii:Value} {all:Int} {V:List Int} {R:List Bool} {G I:List Int} (h:CS w C B vv rr gg ii all V R G I) (x:Int):CS (w.setCell ⟨C,4,none⟩ (.int .i64 x)) C B vv rr gg ii x V R G I :=
 ⟨(cso (by omega)).trans h.c0,(cso (by omega)).trans h.c1,(cso (by omega)).trans h.c2,(cso (by omega)).trans h.c3,World.cell?_setCell_same _ _ _ h.c4,fun j=>(World.frozen?_setCell _ _ _ _).trans (h.fz j),h.o0.kept (grown_set w C 4 _) (Or.inr h.m0),h.o1.kept (grown_set w C 4 _) (Or.inr h.m1),h.o2.kept (grown_set w C 4 _) (Or.inr h.m2),h.o3.kept (grown_set w C 4 _) (Or.inr h.m3),h.n01,h.n02,h.n03,h.n12,h.n13,h.n23,h.m0,h.m1,h.m2,h.m3⟩
theorem CS.new {w:World} {C B t:Nat} {vv rr gg ii:Value} {all:Int} {V:List Int} {R:List Bool} {G I:List Int} (hb:w.heap[C]? = some (.cells #[vv,rr,gg,ii,.int .i64 all] t)) {w0:World} (h:CRow w0 B vv rr gg ii V R G I) (h0:w0.heap.size≤C) (hbel:Below w0.heap.size w0 w):CS w C B vv rr gg ii all V R G I:=by
 have hb2:=h.below hbel
 refine⟨by simp[World.cell?,hb],by simp[World.cell?,hb],by simp[World.cell?,hb],by simp[World.cell?,hb],by simp[World.cell?,hb],fun j=>by simp[World.frozen?,hb],hb2.o0,hb2.o1,hb2.o2,hb2.o3,h.n01,h.n02,h.n03,h.n12,h.n13,h.n23,fun e=>?_,fun e=>?_,fun e=>?_,fun e=>?_⟩
 ·have:=(h.o0.lt C e).2;omega
 ·have:=(h.o1.lt C e).2;omega
 ·have:=(h.o2.lt C e).2;omega
 ·have:=(h.o3.lt C e).2;omega
theorem CS.rows {w:World} {C B:Nat} {vv rr gg ii:Value} {all:Int} {V:List Int} {R:List Bool} {G I:List Int} (h:CS w C B vv rr gg ii all V R G I):CRow w B vv rr gg ii V R G I :=
 ⟨h.o0,h.o1,h.o2,h.o3,h.n01,h.n02,h.n03,h.n12,h.n13,h.n23⟩
theorem Apart.grown' {w:World} {B e size n:Nat} {a a' b:Value} {xs:List Value} (h:Apart a b) (hb:w.ownsRow B e size b n xs) (hat:a'.ownBlock=a.ownBlock∨a'.ownBlock=some w.heap.size):Apart a' b:=by
 rcases hat with hat | hat
 ·rcases h with h | h
  ·exact Or.inl (hat.trans h)
  ·exact Or.inr (by rw[hat];exact h)
 ·refine Or.inr (fun hg=>?_)
  rw[hat] at hg
  have:=(hb.lt _ hg.symm).2
  omega
structure CSS (w:World) (C B:Nat) (vv rr gg ii sv:Value) (all:Int) (V:List Int) (R:List Bool) (G I:List Int) (S:List (Nat × Int)):Prop where
 cs:CS w C B vv rr gg ii all V R G I
 s:w.ownsRow B 152 2 sv S.length (sentCells S)
 a0:Apart sv vv
 a1:Apart sv rr
 a2:Apart sv gg
 a3:Apart sv ii
 mC:sv.ownBlock≠some C
theorem CSS.below {w w':World} {C B:Nat} {vv rr gg ii sv:Value} {all:Int} {V:List Int} {R:List Bool} {G I:List Int} {S:List (Nat × Int)} (h:CSS w C B vv rr gg ii sv all V R G I S) (hb:Below w.heap.size w w'):CSS w' C B vv rr gg ii sv all V R G I S :=
 ⟨h.cs.below hb,obl h.s hb,h.a0,h.a1,h.a2,h.a3,h.mC⟩
theorem CSS.set3 {w:World} {C B g cap i:Nat} {vv rr gg sv:Value} {all:Int} {V:List Int} {R:List Bool} {G I:List Int} {S:List (Nat × Int)} (h:CSS w C B vv rr gg (.slice (some ⟨g,0,none⟩) I.length cap) sv all V R G I S) (x:Int):CSS (w.setCell ⟨g,i,none⟩ (.int .i64 x)) C B vv rr gg (.slice (some ⟨g,0,none⟩) I.length cap) sv all V R G (I.set i x) S :=
 ⟨h.cs.set3 x,h.s.kept (grown_set w g i _) h.a3,h.a0,h.a1,h.a2,h.a3,h.mC⟩
theorem CSS.all' {w:World} {C B:Nat} {vv rr gg ii sv:Value} {all:Int} {V:List Int} {R:List Bool} {G I:List Int} {S:List (Nat × Int)} (h:CSS w C B vv rr gg ii sv all V R G I S) (x:Int):CSS (w.setCell ⟨C,4,none⟩ (.int .i64 x)) C B vv rr gg ii sv x V R G I S :=
 ⟨h.cs.all' x,h.s.kept (grown_set w C 4 _) (Or.inr h.mC),h.a0,h.a1,h.a2,h.a3,h.mC⟩
theorem sentCells_append (A B:List (Nat × Int)):sentCells (A++B)=sentCells A++sentCells B:=by unfold sentCells;rw[List.flatMap_append]
theorem CSS.app {w w1:World} {C B:Nat} {vv rr gg ii sv sv':Value} {all:Int} {V:List Int} {R:List Bool} {G I:List Int} {S T:List (Nat × Int)} (h:CSS w C B vv rr gg ii sv all V R G I S) (hg:w.grownBy w1 sv.ownBlock) (ho:w1.ownsRow B 152 2 sv' (S.length+T.length) (sentCells S++sentCells T)) (hat:sv'.ownBlock=sv.ownBlock∨sv'.ownBlock=some w.heap.size):CSS w1 C B vv rr gg ii sv' all V R G I (S++T):=by
 have hl:=h.cs.lt
 have hc:∀ j,w1.cell? ⟨C,j,none⟩=w.cell? ⟨C,j,none⟩:=fun j=>hg.cell_far ⟨C,j,none⟩ hl (fun e=>h.mC e.symm)
 have hcs:=h.cs
 refine⟨⟨(hc 0).trans hcs.c0,(hc 1).trans hcs.c1,(hc 2).trans hcs.c2,(hc 3).trans hcs.c3,(hc 4).trans hcs.c4,fun j=>(hg.frozen_far ⟨C,j,none⟩ hl (fun e=>h.mC e.symm)).trans (hcs.fz j),hcs.o0.kept hg h.a0.symm,hcs.o1.kept hg h.a1.symm,hcs.o2.kept hg h.a2.symm,hcs.o3.kept hg h.a3.symm,hcs.n01,hcs.n02,hcs.n03,hcs.n12,hcs.n13,hcs.n23,hcs.m0,hcs.m1,hcs.m2,hcs.m3⟩,?_,h.a0.grown' hcs.o0 hat,h.a1.grown' hcs.o1 hat,h.a2.grown' hcs.o2 hat,h.a3.grown' hcs.o3 hat,?_⟩
 ·rw[List.length_append,sentCells_append];exact ho
 ·rcases hat with hat | hat
  ·rw[hat];exact h.mC
  ·rw[hat];intro e;injection e with e;omega
namespace Sp
theorem map_range_set (f:Nat→Int) (n i:Nat) (v:Int):((List.range n).map f).set i v=(List.range n).map (fun j=>if j=i then v else f j):=by
 apply List.ext_getElem?
 intro j
 by_cases hj:j < n
 ·by_cases e:i=j
  ·subst e
   rw[List.getElem?_set_self (by simpa using hj)]
   simp[hj]
  ·rw[List.getElem?_set_ne e]
   simp[hj,Ne.symm e]
 ·rw[List.getElem?_eq_none (by simp;omega),List.getElem?_eq_none (by simp;omega)]
theorem map_range_congr {f g:Nat→Int} {n:Nat} (h:∀ q,q < n→f q=g q):(List.range n).map f=(List.range n).map g:=by
 apply List.map_congr_left
 intro q hq
 exact h q (List.mem_range.1 hq)
theorem getD_map_range (f:Nat→Int) {n i:Nat} (h:i < n):((List.range n).map f).getD i 0=f i:=by
 rw[List.getD_eq_getElem?_getD];simp[h]
theorem set_front {α : Type} (A B:List α) (x : α) (hB:B≠[]):(A++B).set A.length x=A++[x]++B.tail:=by
 rw[List.set_append_right _ _ nlr,Nat.sub_self]
 cases B with
 | nil=>exact absurd rfl hB
 | cons b r=>simp
end Sp
end Go.Proofs.YteflnddphpjahaaGreatDoor
