import Derived.Test.YteflnddphpjahaaGreatDoorClRfB
import Derived.Test.YteflnddphpjahaaGreatDoorClRqAtoEvC
set_option linter.unusedVariables false
set_option linter.unusedSimpArgs false
set_option maxRecDepth 100000
set_option maxHeartbeats 16000000
namespace Go.Proofs.YteflnddphpjahaaGreatDoor
open Go.RowKit
theorem Tryz.info_bool:(Tryz.prog.info? 4).map (fun i=>(i.zero,i.size,i.bytes))=some (some (.bool false),1,1):=by kernel_rfl
def Apart (a b:Value):Prop:=a.ownBlock=none∨a.ownBlock≠b.ownBlock
theorem Apart.symm {a b:Value} (h:Apart a b):Apart b a:=by
 rcases h with h | h
 ·cases hb:b.ownBlock with
  | none=>exact Or.inl hb
  | some g=>exact Or.inr (by rw[hb,h];intro e;cases e)
 ·exact Or.inr (fun e=>h e.symm)
theorem Apart.grown {w:World} {B e size n g k cap:Nat} {a b:Value} {xs:List Value} (h:Apart a b) (hb:w.ownsRow B e size b n xs) (hat:a.ownBlock=some g∨g=w.heap.size):Apart (.slice (some ⟨g,0,none⟩) k cap) b:=by
 refine Or.inr (fun hg=>?_)
 have hg':some g=b.ownBlock:=hg
 rcases hat with hat | hat
 ·rcases h with h | h
  ·rw[h] at hat;cases hat
  ·exact h (hat.trans hg')
 ·have:=(hb.lt g hg'.symm).2
  omega
structure CW (w:World) (C:Nat) (vv rr gg ii:Value) (all:Int) (V:List Int) (R:List Bool) (G I:List Int):Prop where
 c0:w.cell? ⟨C,0,none⟩=some vv
 c1:w.cell? ⟨C,1,none⟩=some rr
 c2:w.cell? ⟨C,2,none⟩=some gg
 c3:w.cell? ⟨C,3,none⟩=some ii
 c4:w.cell? ⟨C,4,none⟩=some (.int .i64 all)
 fz:∀ j,w.frozen? ⟨C,j,none⟩=false
 o0:w.ownsRow (C+1) 2 1 vv V.length (V.map (Value.int .i64))
 o1:w.ownsRow (C+1) 4 1 rr R.length (R.map Value.bool)
 o2:w.ownsRow (C+1) 2 1 gg G.length (G.map (Value.int .i64))
 o3:w.ownsRow (C+1) 2 1 ii I.length (I.map (Value.int .i64))
 n01:Apart vv rr
 n02:Apart vv gg
 n03:Apart vv ii
 n12:Apart rr gg
 n13:Apart rr ii
 n23:Apart gg ii
theorem CW.lt {w:World} {C:Nat} {vv rr gg ii:Value} {all:Int} {V:List Int} {R:List Bool} {G I:List Int} (h:CW w C vv rr gg ii all V R G I):C < w.heap.size:=World.block_lt_of_cell? w _ h.c0
theorem CW.below {w w':World} {C:Nat} {vv rr gg ii:Value} {all:Int} {V:List Int} {R:List Bool} {G I:List Int} (h:CW w C vv rr gg ii all V R G I) (hb:Below w.heap.size w w'):CW w' C vv rr gg ii all V R G I :=
 ⟨(hb.cell (p:=⟨C,0,none⟩) h.lt).trans h.c0,(hb.cell (p:=⟨C,1,none⟩) h.lt).trans h.c1,(hb.cell (p:=⟨C,2,none⟩) h.lt).trans h.c2,(hb.cell (p:=⟨C,3,none⟩) h.lt).trans h.c3,(hb.cell (p:=⟨C,4,none⟩) h.lt).trans h.c4,fun j=>(hb.frozen (p:=⟨C,j,none⟩) h.lt).trans (h.fz j),obl h.o0 hb,obl h.o1 hb,obl h.o2 hb,obl h.o3 hb,h.n01,h.n02,h.n03,h.n12,h.n13,h.n23⟩
theorem CW.app0 {w w1:World} {C:Nat} {vv rr gg ii:Value} {all:Int} {V:List Int} {R:List Bool} {G I:List Int} (h:CW w C vv rr gg ii all V R G I) {g cap:Nat} {x:Int} (hg:w.grownBy w1 vv.ownBlock) (ho:w1.ownsRow (C+1) 2 1 (.slice (some ⟨g,0,none⟩) (V.length+1) cap) (V.length+1) (V.map (Value.int .i64)++[.int .i64 x])) (hat:vv.ownBlock=some g∨g=w.heap.size) :
  CW (w1.setCell ⟨C,0,none⟩ (.slice (some ⟨g,0,none⟩) (V.length+1) cap)) C (.slice (some ⟨g,0,none⟩) (V.length+1) cap) rr gg ii all (V++[x]) R G I:=by
 have hl:=h.lt
 have hne:some C≠vv.ownBlock:=fun e=>by have:=(h.o0.lt C e.symm).1;omega
 have hc:∀ j,w1.cell? ⟨C,j,none⟩=w.cell? ⟨C,j,none⟩:=fun j=>hg.cell_far ⟨C,j,none⟩ hl hne
 refine⟨World.cell?_setCell_same _ _ _ ((hc 0).trans h.c0),(cso (by omega)).trans ((hc 1).trans h.c1),(cso (by omega)).trans ((hc 2).trans h.c2),(cso (by omega)).trans ((hc 3).trans h.c3),(cso (by omega)).trans ((hc 4).trans h.c4),fun j=>(World.frozen?_setCell _ _ _ _).trans ((hg.frozen_far ⟨C,j,none⟩ hl hne).trans (h.fz j)),?_,((Only.refl C w1).set _ _).own (h.o1.kept hg h.n01.symm),((Only.refl C w1).set _ _).own (h.o2.kept hg h.n02.symm),((Only.refl C w1).set _ _).own (h.o3.kept hg h.n03.symm),h.n01.grown h.o1 hat,h.n02.grown h.o2 hat,h.n03.grown h.o3 hat,h.n12,h.n13,h.n23⟩
 rw[List.length_append,List.map_append]
 exact((Only.refl C w1).set _ _).own ho
theorem CW.app1 {w w1:World} {C:Nat} {vv rr gg ii:Value} {all:Int} {V:List Int} {R:List Bool} {G I:List Int} (h:CW w C vv rr gg ii all V R G I) {g cap:Nat} {x:Bool} (hg:w.grownBy w1 rr.ownBlock) (ho:w1.ownsRow (C+1) 4 1 (.slice (some ⟨g,0,none⟩) (R.length+1) cap) (R.length+1) (R.map Value.bool++[.bool x])) (hat:rr.ownBlock=some g∨g=w.heap.size) :
  CW (w1.setCell ⟨C,1,none⟩ (.slice (some ⟨g,0,none⟩) (R.length+1) cap)) C vv (.slice (some ⟨g,0,none⟩) (R.length+1) cap) gg ii all V (R++[x]) G I:=by
 have hl:=h.lt
 have hne:some C≠rr.ownBlock:=fun e=>by have:=(h.o1.lt C e.symm).1;omega
 have hc:∀ j,w1.cell? ⟨C,j,none⟩=w.cell? ⟨C,j,none⟩:=fun j=>hg.cell_far ⟨C,j,none⟩ hl hne
 refine⟨(cso (by omega)).trans ((hc 0).trans h.c0),World.cell?_setCell_same _ _ _ ((hc 1).trans h.c1),(cso (by omega)).trans ((hc 2).trans h.c2),(cso (by omega)).trans ((hc 3).trans h.c3),(cso (by omega)).trans ((hc 4).trans h.c4),fun j=>(World.frozen?_setCell _ _ _ _).trans ((hg.frozen_far ⟨C,j,none⟩ hl hne).trans (h.fz j)),((Only.refl C w1).set _ _).own (h.o0.kept hg h.n01),?_,((Only.refl C w1).set _ _).own (h.o2.kept hg h.n12.symm),((Only.refl C w1).set _ _).own (h.o3.kept hg h.n13.symm),(h.n01.symm.grown h.o0 hat).symm,h.n02,h.n03,h.n12.grown h.o2 hat,h.n13.grown h.o3 hat,h.n23⟩
 rw[List.length_append,List.map_append]
 exact((Only.refl C w1).set _ _).own ho
theorem CW.app2 {w w1:World} {C:Nat} {vv rr gg ii:Value} {all:Int} {V:List Int} {R:List Bool} {G I:List Int} (h:CW w C vv rr gg ii all V R G I) {g cap:Nat} {x:Int} (hg:w.grownBy w1 gg.ownBlock) (ho:w1.ownsRow (C+1) 2 1 (.slice (some ⟨g,0,none⟩) (G.length+1) cap) (G.length+1) (G.map (Value.int .i64)++[.int .i64 x])) (hat:gg.ownBlock=some g∨g=w.heap.size) :
  CW (w1.setCell ⟨C,2,none⟩ (.slice (some ⟨g,0,none⟩) (G.length+1) cap)) C vv rr (.slice (some ⟨g,0,none⟩) (G.length+1) cap) ii all V R (G++[x]) I:=by
 have hl:=h.lt
 have hne:some C≠gg.ownBlock:=fun e=>by have:=(h.o2.lt C e.symm).1;omega
 have hc:∀ j,w1.cell? ⟨C,j,none⟩=w.cell? ⟨C,j,none⟩:=fun j=>hg.cell_far ⟨C,j,none⟩ hl hne
 refine⟨(cso (by omega)).trans ((hc 0).trans h.c0),(cso (by omega)).trans ((hc 1).trans h.c1),World.cell?_setCell_same _ _ _ ((hc 2).trans h.c2),(cso (by omega)).trans ((hc 3).trans h.c3),(cso (by omega)).trans ((hc 4).trans h.c4),fun j=>(World.frozen?_setCell _ _ _ _).trans ((hg.frozen_far ⟨C,j,none⟩ hl hne).trans (h.fz j)),((Only.refl C w1).set _ _).own (h.o0.kept hg h.n02),((Only.refl C w1).set _ _).own (h.o1.kept hg h.n12),?_,((Only.refl C w1).set _ _).own (h.o3.kept hg h.n23.symm),h.n01,(h.n02.symm.grown h.o0 hat).symm,h.n03,(h.n12.symm.grown h.o1 hat).symm,h.n13,h.n23.grown h.o3 hat⟩
 rw[List.length_append,List.map_append]
 exact((Only.refl C w1).set _ _).own ho
theorem CW.app3 {w w1:World} {C:Nat} {vv rr gg ii:Value} {all:Int} {V:List Int} {R:List Bool} {G I:List Int} (h:CW w C vv rr gg ii all V R G I) {g cap:Nat} {x:Int} (hg:w.grownBy w1 ii.ownBlock) (ho:w1.ownsRow (C+1) 2 1 (.slice (some ⟨g,0,none⟩) (I.length+1) cap) (I.length+1) (I.map (Value.int .i64)++[.int .i64 x])) (hat:ii.ownBlock=some g∨g=w.heap.size) :
  CW (w1.setCell ⟨C,3,none⟩ (.slice (some ⟨g,0,none⟩) (I.length+1) cap)) C vv rr gg (.slice (some ⟨g,0,none⟩) (I.length+1) cap) all V R G (I++[x]):=by
 have hl:=h.lt
 have hne:some C≠ii.ownBlock:=fun e=>by have:=(h.o3.lt C e.symm).1;omega
 have hc:∀ j,w1.cell? ⟨C,j,none⟩=w.cell? ⟨C,j,none⟩:=fun j=>hg.cell_far ⟨C,j,none⟩ hl hne
 refine⟨(cso (by omega)).trans ((hc 0).trans h.c0),(cso (by omega)).trans ((hc 1).trans h.c1),(cso (by omega)).trans ((hc 2).trans h.c2),World.cell?_setCell_same _ _ _ ((hc 3).trans h.c3),(cso (by omega)).trans ((hc 4).trans h.c4),fun j=>(World.frozen?_setCell _ _ _ _).trans ((hg.frozen_far ⟨C,j,none⟩ hl hne).trans (h.fz j)),((Only.refl C w1).set _ _).own (h.o0.kept hg h.n03),((Only.refl C w1).set _ _).own (h.o1.kept hg h.n13),((Only.refl C w1).set _ _).own (h.o2.kept hg h.n23),?_,h.n01,h.n02,(h.n03.symm.grown h.o0 hat).symm,h.n12,(h.n13.symm.grown h.o1 hat).symm,(h.n23.symm.grown h.o2 hat).symm⟩
 rw[List.length_append,List.map_append]
 exact((Only.refl C w1).set _ _).own ho
theorem CW.all' {w:World} {C:Nat} {vv rr gg ii:Value} {all:Int} {V:List Int} {R:List Bool} {G I:List Int} (h:CW w C vv rr gg ii all V R G I) (x:Int):CW (w.setCell ⟨C,4,none⟩ (.int .i64 x)) C vv rr gg ii x V R G I :=
 ⟨(cso (by omega)).trans h.c0,(cso (by omega)).trans h.c1,(cso (by omega)).trans h.c2,(cso (by omega)).trans h.c3,World.cell?_setCell_same _ _ _ h.c4,fun j=>(World.frozen?_setCell _ _ _ _).trans (h.fz j),((Only.refl C w).set _ _).own h.o0,((Only.refl C w).set _ _).own h.o1,((Only.refl C w).set _ _).own h.o2,((Only.refl C w).set _ _).own h.o3,h.n01,h.n02,h.n03,h.n12,h.n13,h.n23⟩
theorem CW.new {w:World} {C t:Nat} (h:w.heap[C]? = some (.cells #[.slice none 0 0,.slice none 0 0,.slice none 0 0,.slice none 0 0,.int .i64 0] t)):CW w C (.slice none 0 0) (.slice none 0 0) (.slice none 0 0) (.slice none 0 0) 0 [] [] [] []:=
 ⟨by simp[World.cell?,h],by simp[World.cell?,h],by simp[World.cell?,h],by simp[World.cell?,h],by simp[World.cell?,h],fun j=>by simp[World.frozen?,h],World.ownsRow_nil _ _ _ _,World.ownsRow_nil _ _ _ _,World.ownsRow_nil _ _ _ _,World.ownsRow_nil _ _ _ _,Or.inl rfl,Or.inl rfl,Or.inl rfl,Or.inl rfl,Or.inl rfl,Or.inl rfl⟩
structure CRow (w:World) (B:Nat) (vv rr gg ii:Value) (V:List Int) (R:List Bool) (G I:List Int):Prop where
 o0:w.ownsRow B 2 1 vv V.length (V.map (Value.int .i64))
 o1:w.ownsRow B 4 1 rr R.length (R.map Value.bool)
 o2:w.ownsRow B 2 1 gg G.length (G.map (Value.int .i64))
 o3:w.ownsRow B 2 1 ii I.length (I.map (Value.int .i64))
 n01:Apart vv rr
 n02:Apart vv gg
 n03:Apart vv ii
 n12:Apart rr gg
 n13:Apart rr ii
 n23:Apart gg ii
def set5 (W:World) (R:Nat) (a b c d e:Value):World:=((((W.setCell ⟨R,0,none⟩ a).setCell ⟨R,1,none⟩ b).setCell ⟨R,2,none⟩ c).setCell ⟨R,3,none⟩ d).setCell ⟨R,4,none⟩ e
theorem below_set5 {w W:World} {R:Nat} (h:Below w.heap.size w W) (hR:w.heap.size≤R) (a b c d e:Value):Below w.heap.size w (set5 W R a b c d e):=
 ((((h.setCell (p:=⟨R,0,none⟩) hR _).setCell (p:=⟨R,1,none⟩) hR _).setCell (p:=⟨R,2,none⟩) hR _).setCell (p:=⟨R,3,none⟩) hR _).setCell (p:=⟨R,4,none⟩) hR _
theorem own_set5 {W:World} {R B t size n:Nat} {v:Value} {xs:List Value} (h:W.ownsRow B t size v n xs) (hR:R < B) (a b c d e:Value):(set5 W R a b c d e).ownsRow B t size v n xs :=
 ownsRow_setCell_below (ownsRow_setCell_below (ownsRow_setCell_below (ownsRow_setCell_below (ownsRow_setCell_below h (a:=⟨R,0,none⟩) hR _) (a:=⟨R,1,none⟩) hR _) (a:=⟨R,2,none⟩) hR _) (a:=⟨R,3,none⟩) hR _) (a:=⟨R,4,none⟩) hR _
theorem CRow.set5 {w:World} {B R:Nat} {vv rr gg ii:Value} {V:List Int} {Rs:List Bool} {G I:List Int} (h:CRow w B vv rr gg ii V Rs G I) (hR:R < B) (a b c d e:Value):CRow (Go.Proofs.YteflnddphpjahaaGreatDoor.set5 w R a b c d e) B vv rr gg ii V Rs G I :=
 ⟨own_set5 h.o0 hR _ _ _ _ _,own_set5 h.o1 hR _ _ _ _ _,own_set5 h.o2 hR _ _ _ _ _,own_set5 h.o3 hR _ _ _ _ _,h.n01,h.n02,h.n03,h.n12,h.n13,h.n23⟩
theorem CRow.low {w:World} {B B':Nat} {vv rr gg ii:Value} {V:List Int} {Rs:List Bool} {G I:List Int} (h:CRow w B' vv rr gg ii V Rs G I) (hB:B≤B'):CRow w B vv rr gg ii V Rs G I :=
 ⟨own_low h.o0 hB,own_low h.o1 hB,own_low h.o2 hB,own_low h.o3 hB,h.n01,h.n02,h.n03,h.n12,h.n13,h.n23⟩
theorem CRow.below {w w':World} {B:Nat} {vv rr gg ii:Value} {V:List Int} {Rs:List Bool} {G I:List Int} (h:CRow w B vv rr gg ii V Rs G I) (hb:Below w.heap.size w w'):CRow w' B vv rr gg ii V Rs G I :=
 ⟨obl h.o0 hb,obl h.o1 hb,obl h.o2 hb,obl h.o3 hb,h.n01,h.n02,h.n03,h.n12,h.n13,h.n23⟩
theorem CW.rows {w:World} {C B:Nat} {vv rr gg ii:Value} {all:Int} {V:List Int} {R:List Bool} {G I:List Int} (h:CW w C vv rr gg ii all V R G I) (hB:B≤C+1):CRow w B vv rr gg ii V R G I :=
 ⟨own_low h.o0 hB,own_low h.o1 hB,own_low h.o2 hB,own_low h.o3 hB,h.n01,h.n02,h.n03,h.n12,h.n13,h.n23⟩
theorem wp_join1 {P:Program} {c:Code} {Q:Exit→Act→World→Prop} {a:Act} {w:World} (R:Value→World→Prop) (h:∃ A:Value→Act,c.wp P (noPanR fun x a' w'=>x = .normal∧∃ v,a'=A v∧R v w') a w∧∀ v w',R v w'→Q .normal (A v) w'):c.wp P Q a w:=by
 obtain⟨A,h1,h2⟩:=h
 refine Code.wp_mono (fun e a w h=>?_) h1
 obtain⟨rfl,v,rfl,hr⟩:=noPanR_mono _ _ _ h
 exact h2 _ _ hr
theorem rep_snoc {α : Type} (k:Nat) (x : α):List.replicate k x++[x]=List.replicate (k+1) x:=List.replicate_succ'.symm
def FPost (P:Sp.Pg) (vs:List Int) (w:World) (e:Ending) (w':World):Prop :=
 Below w.heap.size w w'∧∃ vv rr gg ii,e = .returned (.agg #[vv,rr,gg,ii,.int .i64 (Sp.noneK P.al)])∧CRow w' w.heap.size vv rr gg ii vs (List.replicate vs.length false) (List.replicate vs.length 0) (List.replicate vs.length (Sp.noneK P.by'))
structure FInv (W0 wr:World) (C:Nat) (P:Sp.Pg) (vs:List Int) (k:Nat) (vv rr gg ii:Value):Prop where
 cw:CW wr C vv rr gg ii 0 (vs.take k) (List.replicate k false) (List.replicate k 0) (List.replicate k (Sp.noneK P.by'))
 bel:Below C W0 wr
theorem rfirst_any (j:JV) (P:Sp.Pg) (vs:List Int) (Es:List Sp.Ed) (w:World) (hj:JobR w j P vs Es):Calls Tryz.prog 30 #[.agg (jobA j)] w (FPost P vs w):=by
 obtain⟨t2,ht2,hva,hvb,hvc⟩:=info_parts Tryz.info_i64
 obtain⟨t3,ht3,hua,hub,huc⟩:=info_parts Tryz.info_bool
 generalize hO:FPost P vs w=O
 replace hO:=hde hO
 have HJ:=hde hj
 have HNN:=hde hj.n
 have hn64:j.n≤64:=by rw[hj.n];exact hj.ok.n64
 have hbyK:j.bby.data.toList ∈ Sp.combsL:=by rw[hj.by'];exact hj.ok.byK
 have halK:j.bal.data.toList ∈ Sp.combsL:=by rw[hj.al];exact hj.ok.alK
 have HNB:Hid (∀ W,Calls Tryz.prog 55 #[.string j.bby] W fun e w'=>e = .returned (.int .i64 (Sp.noneK P.by'))∧w'=W):=by
  show ∀ W,_
  intro W
  have h:=rnone j.bby hbyK W
  rw[hj.by'] at h
  exact h
 have HNA:Hid (∀ W,Calls Tryz.prog 55 #[.string j.bal] W fun e w'=>e = .returned (.int .i64 (Sp.noneK P.al))∧w'=W):=by
  show ∀ W,_
  intro W
  have h:=rnone j.bal halK W
  rw[hj.al] at h
  exact h
 have HB0:Hid (∀ W,W=((w.alloc (.cells (jobA j) 109)).alloc (.cells #[.slice none 0 0,.slice none 0 0,.slice none 0 0,.slice none 0 0,.int .i64 0] 114)).alloc (.cells #[.slice none 0 0,.slice none 0 0,.slice none 0 0,.slice none 0 0,.int .i64 0] 114)→W.heap[w.heap.size]? = some (.cells (jobA j) 109 (0,0))∧W.heap[w.heap.size+1]? = some (.cells #[.slice none 0 0,.slice none 0 0,.slice none 0 0,.slice none 0 0,.int .i64 0] 114 (0,0))∧W.heap[w.heap.size+1+1]? = some (.cells #[.slice none 0 0,.slice none 0 0,.slice none 0 0,.slice none 0 0,.int .i64 0] 114 (0,0))∧Below w.heap.size w W∧W.heap.size=w.heap.size+1+1+1):=by
  show ∀ W,_
  rintro W rfl
  have z1:=World.size_alloc w (.cells (jobA j) 109)
  generalize hA:w.alloc _=A at *
  have b1:A.heap[w.heap.size]? = some (.cells (jobA j) 109 (0,0)):=by rw[← hA];exact heap_alloc_new w _
  have hb1:Below w.heap.size w A:=by rw[← hA];exact(Below.refl _ _).alloc nlr _
  have z2:=World.size_alloc A (.cells #[.slice none 0 0,.slice none 0 0,.slice none 0 0,.slice none 0 0,.int .i64 0] 114)
  have b2:=heap_alloc_new A (.cells #[.slice none 0 0,.slice none 0 0,.slice none 0 0,.slice none 0 0,.int .i64 0] 114)
  have hb2:Below A.heap.size A (A.alloc (.cells #[.slice none 0 0,.slice none 0 0,.slice none 0 0,.slice none 0 0,.int .i64 0] 114)):=(Below.refl _ _).alloc nlr _
  generalize A.alloc _=A2 at *
  have z3:=World.size_alloc A2 (.cells #[.slice none 0 0,.slice none 0 0,.slice none 0 0,.slice none 0 0,.int .i64 0] 114)
  have b3:=heap_alloc_new A2 (.cells #[.slice none 0 0,.slice none 0 0,.slice none 0 0,.slice none 0 0,.int .i64 0] 114)
  have hb3:Below A2.heap.size A2 (A2.alloc (.cells #[.slice none 0 0,.slice none 0 0,.slice none 0 0,.slice none 0 0,.int .i64 0] 114)):=(Below.refl _ _).alloc nlr _
  generalize A2.alloc _=A3 at *
  rw[z1] at b2
  rw[z2,z1] at b3
  refine⟨(hb3.block _ (by omega)).trans ((hb2.block _ (by omega)).trans b1),(hb3.block _ (by omega)).trans b2,b3,(hb1.trans (hb2.mono hb1.size)).trans (hb3.mono (by omega)),by omega⟩
 clear hj
 unfold jobA at *
 go_enter Tryz.func30,Tryz.ntmps30
 go_wp2_with fail
 generalize hW:World.alloc (World.alloc _ _) _=W0
 obtain⟨hbj,hbr,hbc,hb0,hz0⟩:=uh HB0 W0 hW.symm
 clear hW HB0
 have HBJ:=hde hbj
 have HBR:=hde hbr
 have HZ0:=hde hz0
 have HI0:Hid (FInv W0 W0 (w.heap.size+1+1) P vs 0 (.slice none 0 0) (.slice none 0 0) (.slice none 0 0) (.slice none 0 0)):=⟨CW.new hbc,Below.refl _ _⟩
 clear hbj hbr hbc hz0
 go_loopw [4] (fun u wr=>∃ (k:Nat) (vv rr gg ii:Value),k≤j.n∧u = .int .i64 k∧Hid (FInv W0 wr (w.heap.size+1+1) P vs k vv rr gg ii)) (fun u _=>j.n - (intOf u).toNat)
 case atStart=>exact⟨0,_,_,_,_,Nat.zero_le _,rfl,HI0⟩
 case round =>
  clear HI0
  obtain⟨k,vv,rr,gg,ii,hk,rfl,HI⟩:=hrel
  have kj0:wr.cell? ⟨w.heap.size,0,none⟩=some (.slice j.pn j.n j.kn):=by
   have h:=((uh HI).bel.block w.heap.size (by omega)).trans (uh HBJ)
   simp[World.cell?,h]
  by_cases hlt:k < j.n
  ·have hltz:(k:Int) < (j.n:Int):=by omega
   have g0:(0:Int)≤(k:Int):=Int.natCast_nonneg _
   have hkv:k < vs.length:=by rw[← uh HNN];exact hlt
   have hbw:Below w.heap.size w wr:=hb0.trans ((uh HI).bel.mono (by omega))
   obtain⟨gv,hpv,hgv,cv⟩:=((uh HJ).v) k hkv
   have hJ:=((uh HI).bel.block w.heap.size (by omega)).trans (uh HBJ)
   have kj1:wr.cell? ⟨w.heap.size,1,none⟩=some (.slice (some ⟨gv,0,none⟩) j.n j.kv):=by rw[← hpv];simp[World.cell?,hJ]
   have cvr:wr.cell? ⟨gv,k,none⟩=some (.int .i64 vs[k]):=(hbw.cell (p:=⟨gv,k,none⟩) hgv).trans cv
   obtain⟨x,hx⟩:∃ x,vs[k]=x:=⟨_,rfl⟩
   rw[hx] at cvr
   have HTK:Hid (vs.take (k+1)=vs.take k++[x]):=by show _=_;rw[List.take_succ_eq_append_getElem hkv,hx]
   clear hx
   have hcw:=(uh HI).cw
   have c0:=hcw.c0
   have f0:=hcw.fz 0
   have hCl:=hcw.lt
   have hr0:=hcw.o0
   have htl:(vs.take k).length=k:=by rw[List.length_take];omega
   rw[htl] at hr0
   have hne0:some (w.heap.size+1+1)≠vv.ownBlock:=fun e=>by have:=(hr0.lt _ e.symm).1;omega
   clear cv hJ hpv
   go_upto_region 5 with fail
   apply wp_join1 (fun vv' w'=>Hid (CW w' (w.heap.size+1+1) vv' rr gg ii 0 (vs.take (k+1)) (List.replicate k false) (List.replicate k 0) (List.replicate k (Sp.noneK P.by')))∧Hid (Below (w.heap.size+1+1) W0 w'))
   apply Exists.intro
   apply And.intro
   case left =>
    go_region_law ((refine step_append_lies _ (by rfl) _ _ _ (by rfl) (w.heap.size+1+1+1) 2 t2 _ 1 8 Tryz.underlying42 ht2 hva hvb hvc rfl (by omega) vv _ _ (by rfl) ((hr0.alloc _).drew) ⟨wr.heap.size,0,none⟩ 1 1 [.int .i64 x] (by rfl) (by rfl) (World.news_of_block (cs := #[.int .i64 x]) (t:=2) (fr:=(0,0)) (heap_alloc_new wr _)) (by simp[Value.oneCell']) (by omega) (by unfold maxLen;omega) (by omega) (by simp;omega) (wr.heap.size+1) (by simp) ?_;intro g1 cp1 w2 hown1 hgrow hat hlt1;have hq0:w2.cell? ⟨w.heap.size+1+1,0,none⟩=some vv:=(hgrow.cell_far ⟨w.heap.size+1+1,0,none⟩ (by simp;omega) hne0).trans ((hcw.below (((Below.refl wr.heap.size wr).alloc nlr _).drew)).c0);have hq1:w2.frozen? ⟨w.heap.size+1+1,0,none⟩=false:=(hgrow.frozen_far ⟨w.heap.size+1+1,0,none⟩ (by simp;omega) hne0).trans ((hcw.below (((Below.refl wr.heap.size wr).alloc nlr _).drew)).fz 0)))
    all_goals
     have hA:Below wr.heap.size wr ((wr.alloc (.cells #[.int .i64 x] 2)).drew):=((Below.refl wr.heap.size wr).alloc nlr _).drew
     have hcw2:=(hcw.below hA).app0 (x:=x) hgrow (by rw[htl];exact hown1) (by rcases hat with h | h;exact Or.inl h;exact Or.inr (by rw[h];simp))
     rw[htl] at hcw2
     have hb2:=below_app ((uh HI).bel.trans (hA.mono (Nat.le_of_lt hCl))) (hcw.below hA).lt ((hr0.alloc _).drew) hgrow 0 (.slice (some ⟨g1,0,none⟩) (k+1) cp1)
     generalize Value.slice (some ⟨g1,0,none⟩) (k+1) cp1=vv' at *
     exact⟨rfl,vv',rfl,by rw[uh HTK];exact hcw2,hb2⟩
   case right =>
   rintro vv' w1 ⟨HC1,HB1⟩
   clear c0 f0 hCl hr0 hne0 hcw kj1 cvr HTK htl hgv
   have hcw:=uh HC1
   have ck:=hcw.c1
   have fk:=hcw.fz 1
   have hCl:=hcw.lt
   have hr:=hcw.o1
   rw[List.length_replicate] at hr
   have hne:some (w.heap.size+1+1)≠rr.ownBlock:=fun e=>by have:=(hr.lt _ e.symm).1;omega
   go_upto_region 7 with (first | (at_builtin;go_must (refine wpList_append_lies _ rfl (.tmp 25) (.tmp 26) 112 rfl (w.heap.size+1+1+1) 4 t3 _ 1 1 Tryz.underlying112 ht3 hua hub huc rfl (by omega) rr _ _ rfl (hr.alloc _) ⟨w1.heap.size,0,none⟩ 1 1 [.bool false] rfl rfl (World.news_of_block (cs := #[.bool false]) (t:=4) (fr:=(0,0)) (heap_alloc_new w1 _)) (by simp[Value.oneCell']) (by omega) (by unfold maxLen;omega) (by omega) (by simp;omega) (w1.heap.size+1) (by simp) ?_;intro g2 cp2 w2 hown hgrow hat hltq;have hq0:w2.cell? ⟨w.heap.size+1+1,1,none⟩=some rr:=(hgrow.cell_far ⟨w.heap.size+1+1,1,none⟩ (by simp;omega) hne).trans ((hcw.below ((Below.refl w1.heap.size w1).alloc nlr _)).c1);have hq1:w2.frozen? ⟨w.heap.size+1+1,1,none⟩=false:=(hgrow.frozen_far ⟨w.heap.size+1+1,1,none⟩ (by simp;omega) hne).trans ((hcw.below ((Below.refl w1.heap.size w1).alloc nlr _)).fz 1))) | go_in)
   have hA:Below w1.heap.size w1 (w1.alloc (.cells #[.bool false] 4)):=(Below.refl w1.heap.size w1).alloc nlr _
   have hcw2:=(hcw.below hA).app1 (x:=false) hgrow (by rw[List.length_replicate];exact hown) (by rcases hat with h | h;exact Or.inl h;exact Or.inr (by rw[h];simp))
   rw[List.length_replicate,rep_snoc] at hcw2
   have HC2:=hde hcw2
   have HB2:=hde (below_app ((uh HB1).trans (hA.mono (Nat.le_of_lt hCl))) (hcw.below hA).lt (hr.alloc _) hgrow 1 (.slice (some ⟨g2,0,none⟩) (k+1) cp2))
   clear hcw2 hA hcw hr hown hgrow hat hltq hq0 hq1 hne hCl ck fk HC1 HB1
   generalize World.setCell _ _ _=W2 at HC2 HB2 ⊢
   generalize Value.slice (some ⟨g2,0,none⟩) (k+1) cp2=rr' at HC2 HB2 ⊢
   have hcw:=uh HC2
   have ck:=hcw.c2
   have fk:=hcw.fz 2
   have hCl:=hcw.lt
   have hr:=hcw.o2
   rw[List.length_replicate] at hr
   have hne:some (w.heap.size+1+1)≠gg.ownBlock:=fun e=>by have:=(hr.lt _ e.symm).1;omega
   go_upto_region 8 with (first | (at_builtin;go_must (refine wpList_append_lies _ rfl (.tmp 30) (.tmp 31) 42 rfl (w.heap.size+1+1+1) 2 t2 _ 1 8 Tryz.underlying42 ht2 hva hvb hvc rfl (by omega) gg _ _ rfl (hr.alloc _) ⟨W2.heap.size,0,none⟩ 1 1 [.int .i64 0] rfl rfl (World.news_of_block (cs := #[.int .i64 0]) (t:=2) (fr:=(0,0)) (heap_alloc_new W2 _)) (by simp[Value.oneCell']) (by omega) (by unfold maxLen;omega) (by omega) (by simp;omega) (W2.heap.size+1) (by simp) ?_;intro g2 cp2 w2 hown hgrow hat hltq;have hq0:w2.cell? ⟨w.heap.size+1+1,2,none⟩=some gg:=(hgrow.cell_far ⟨w.heap.size+1+1,2,none⟩ (by simp;omega) hne).trans ((hcw.below ((Below.refl W2.heap.size W2).alloc nlr _)).c2);have hq1:w2.frozen? ⟨w.heap.size+1+1,2,none⟩=false:=(hgrow.frozen_far ⟨w.heap.size+1+1,2,none⟩ (by simp;omega) hne).trans ((hcw.below ((Below.refl W2.heap.size W2).alloc nlr _)).fz 2))) | go_in)
   have hA:Below W2.heap.size W2 (W2.alloc (.cells #[.int .i64 0] 2)):=(Below.refl W2.heap.size W2).alloc nlr _
   have hcw2:=(hcw.below hA).app2 (x:=0) hgrow (by rw[List.length_replicate];exact hown) (by rcases hat with h | h;exact Or.inl h;exact Or.inr (by rw[h];simp))
   rw[List.length_replicate,rep_snoc] at hcw2
   have HC3:=hde hcw2
   have HB3:=hde (below_app ((uh HB2).trans (hA.mono (Nat.le_of_lt hCl))) (hcw.below hA).lt (hr.alloc _) hgrow 2 (.slice (some ⟨g2,0,none⟩) (k+1) cp2))
   clear hcw2 hA hcw hr hown hgrow hat hltq hq0 hq1 hne hCl ck fk HC2 HB2
   generalize World.setCell _ _ _=W3 at HC3 HB3 ⊢
   generalize Value.slice (some ⟨g2,0,none⟩) (k+1) cp2=gg' at HC3 HB3 ⊢
   have hcw:=uh HC3
   have ck:=hcw.c3
   have fk:=hcw.fz 3
   have hCl:=hcw.lt
   have hr:=hcw.o3
   rw[List.length_replicate] at hr
   have hne:some (w.heap.size+1+1)≠ii.ownBlock:=fun e=>by have:=(hr.lt _ e.symm).1;omega
   have kj8:W3.cell? ⟨w.heap.size,8,none⟩=some (.string j.bby):=by
    have h:=((uh HB3).block w.heap.size (by omega)).trans (uh HBJ)
    simp[World.cell?,h]
   have HEN:Hid (∀ (args:Array Value) (w:World),(callFunc 55 args).run Tryz.prog w = .ok (.enter 55 args) w):=cfe Tryz.func55 (by kernel_rfl) (by kernel_rfl)
   obtain⟨nb,HNBE⟩:∃ nb,Hid (Sp.noneK P.by'=nb):=⟨_,rfl⟩
   rw[uh HNBE] at HNB
   apply wp_join1 (fun ii' w'=>Hid (FInv W0 w' (w.heap.size+1+1) P vs (k+1) vv' rr' gg' ii'))
   apply Exists.intro
   apply And.intro
   case left =>
    go_region_law (first
     | (refine step_call (by rfl) _ _ _ (by rfl) 55 (by rfl) _ (by rfl) (uh HEN) (uh HNB _) ?_;rintro e wq ⟨rfl,hwq⟩;obtain rfl:=hwq.symm;dsimp only)
     | (refine step_append_lies _ (by rfl) _ _ _ (by rfl) (w.heap.size+1+1+1) 2 t2 _ 1 8 Tryz.underlying42 ht2 hva hvb hvc rfl (by omega) ii _ _ (by rfl) ((hr.alloc _).drew) ⟨W3.heap.size,0,none⟩ 1 1 [.int .i64 nb] (by rfl) (by rfl) (World.news_of_block (cs := #[.int .i64 nb]) (t:=2) (fr:=(0,0)) (heap_alloc_new W3 _)) (by simp[Value.oneCell']) (by omega) (by unfold maxLen;omega) (by omega) (by simp;omega) (W3.heap.size+1) (by simp) ?_;intro g1 cp1 w2 hown1 hgrow hat hlt1;have hq0:w2.cell? ⟨w.heap.size+1+1,3,none⟩=some ii:=(hgrow.cell_far ⟨w.heap.size+1+1,3,none⟩ (by simp;omega) hne).trans ((hcw.below (((Below.refl W3.heap.size W3).alloc nlr _).drew)).c3);have hq1:w2.frozen? ⟨w.heap.size+1+1,3,none⟩=false:=(hgrow.frozen_far ⟨w.heap.size+1+1,3,none⟩ (by simp;omega) hne).trans ((hcw.below (((Below.refl W3.heap.size W3).alloc nlr _).drew)).fz 3)))
    all_goals
     have hA:Below W3.heap.size W3 ((W3.alloc (.cells #[.int .i64 nb] 2)).drew):=((Below.refl W3.heap.size W3).alloc nlr _).drew
     have hcw2:=(hcw.below hA).app3 (x:=nb) hgrow (by rw[List.length_replicate,← uh HNBE] at *;exact hown1) (by rcases hat with h | h;exact Or.inl h;exact Or.inr (by rw[h];simp))
     rw[List.length_replicate,uh HNBE,rep_snoc] at hcw2
     have hb2:=below_app ((uh HB3).trans (hA.mono (Nat.le_of_lt hCl))) (hcw.below hA).lt ((hr.alloc _).drew) hgrow 3 (.slice (some ⟨g1,0,none⟩) (k+1) cp1)
     generalize Value.slice (some ⟨g1,0,none⟩) (k+1) cp1=ii' at *
     exact⟨rfl,ii',rfl,by rw[uh HNBE];exact hcw2,hb2⟩
   case right =>
   rintro ii' w4 HI4
   clear hcw ck fk hCl hr hne kj8 HC3 HB3
   go_wp2
   go_roundw
   case rel=>exact⟨k+1,vv',rr',gg',ii',by omega,by go_num,HI4⟩
   case measure=>simp[intOf];omega
  ·have hltz:¬ (k:Int) < (j.n:Int):=by omega
   have hkv:k=vs.length:=by rw[← uh HNN];omega
   have hcw:=(uh HI).cw
   have HBI:=hde (uh HI).bel
   have kj9:wr.cell? ⟨w.heap.size,9,none⟩=some (.string j.bal):=by
    have h:=((uh HI).bel.block w.heap.size (by omega)).trans (uh HBJ)
    simp[World.cell?,h]
   have c4:=hcw.c4
   have f4:=hcw.fz 4
   obtain⟨na,HNAE⟩:∃ na,Hid (Sp.noneK P.al=na):=⟨_,rfl⟩
   rw[uh HNAE] at HNA
   go_upto_region 10 with (first | (go_at_call 55;go_must (refine(uh HNA _).mono ?_);rintro e wq ⟨rfl,hwq⟩;obtain rfl:=hwq.symm))
   have HC2:=hde (hcw.all' na)
   have HB2:=hde ((uh HBI).setCell (p:=⟨w.heap.size+1+1,4,none⟩) nlr (.int .i64 na))
   clear hcw c4 f4 kj9 kj0 HBI
   generalize World.setCell _ _ _=W5 at HC2 HB2 ⊢
   have hrb:W5.heap[w.heap.size+1]? = _:=((uh HB2).block (w.heap.size+1) (by omega)).trans (uh HBR)
   have r0:W5.cell? ⟨w.heap.size+1,0,none⟩=some (.slice none 0 0):=by simp[World.cell?,hrb]
   have r1:W5.cell? ⟨w.heap.size+1,1,none⟩=some (.slice none 0 0):=by simp[World.cell?,hrb]
   have r2:W5.cell? ⟨w.heap.size+1,2,none⟩=some (.slice none 0 0):=by simp[World.cell?,hrb]
   have r3:W5.cell? ⟨w.heap.size+1,3,none⟩=some (.slice none 0 0):=by simp[World.cell?,hrb]
   have r4:W5.cell? ⟨w.heap.size+1,4,none⟩=some (.int .i64 0):=by simp[World.cell?,hrb]
   have rf0:W5.frozen? ⟨w.heap.size+1,0,none⟩=false:=by simp[World.frozen?,hrb]
   have rf1:W5.frozen? ⟨w.heap.size+1,1,none⟩=false:=by simp[World.frozen?,hrb]
   have rf2:W5.frozen? ⟨w.heap.size+1,2,none⟩=false:=by simp[World.frozen?,hrb]
   have rf3:W5.frozen? ⟨w.heap.size+1,3,none⟩=false:=by simp[World.frozen?,hrb]
   have rf4:W5.frozen? ⟨w.heap.size+1,4,none⟩=false:=by simp[World.frozen?,hrb]
   obtain⟨q0,k0,e0,_⟩:=osl (uh HC2).o0
   obtain⟨q1,k1,e1,_⟩:=osl (uh HC2).o1
   obtain⟨q2,k2,e2,_⟩:=osl (uh HC2).o2
   obtain⟨q3,k3,e3,_⟩:=osl (uh HC2).o3
   generalize (vs.take k).length=m0 at e0
   generalize (List.replicate k false).length=m1 at e1
   generalize (List.replicate k (0:Int)).length=m2 at e2
   generalize (List.replicate k (Sp.noneK P.by')).length=m3 at e3
   subst e0 e1 e2 e3
   have HFN:Hid (O (.returned (.agg #[.slice q0 m0 k0,.slice q1 m1 k1,.slice q2 m2 k2,.slice q3 m3 k3,.int .i64 na])) (set5 W5 (w.heap.size+1) (.slice q0 m0 k0) (.slice q1 m1 k1) (.slice q2 m2 k2) (.slice q3 m3 k3) (.int .i64 na))):=by
    have h1:=(uh HC2).rows (B:=w.heap.size+1+1) (by omega)
    have h2:=h1.set5 (R:=w.heap.size+1) (by omega) (.slice q0 m0 k0) (.slice q1 m1 k1) (.slice q2 m2 k2) (.slice q3 m3 k3) (.int .i64 na)
    show O _ _
    rw[← uh hO]
    refine⟨below_set5 (hb0.trans ((uh HB2).mono (by omega))) (by omega) _ _ _ _ _,_,_,_,_,by rw[uh HNAE],?_⟩
    have h3:=h2.low (Nat.le_trans (Nat.le_succ _) (Nat.le_succ _))
    rw[hkv,List.take_length] at h3
    exact h3
   have x0:=(uh HC2).c0
   have x1:=(uh HC2).c1
   have x2:=(uh HC2).c2
   have x3:=(uh HC2).c3
   have x4:=(uh HC2).c4
   clear HC2 HB2 hrb
   go_wp2
   exact bodyPost_ret (v := .agg #[.slice q0 m0 k0,.slice q1 m1 k1,.slice q2 m2 k2,.slice q3 m3 k3,.int .i64 na]) (by simp[results,Tryz.results30,go_sem,r0,r1,r2,r3,r4]) rfl (uh HFN)
namespace Sp
def someTo (c:Cfg) (step:Nat):Nat→Bool
 | 0=>false
 | k+1=>someTo c step k || awake c k step
theorem someTo_all (c:Cfg) (step:Nat):∀ k,((List.range k).all fun i=>!awake c i step) = !someTo c step k:=by
 intro k
 induction k with
 | zero=>rfl
 | succ k ih=>rw[List.range_succ,List.all_append,ih];simp[someTo]
theorem quiet_some (c:Cfg) (step:Nat):quiet c step = !someTo c step c.val.length:=someTo_all c step _
def endsR (cap:Nat) (c:Cfg) (step:Nat):Int:=if quiet c step=true then 1 else if cap≤step then 2 else 0
end Sp
theorem rends_any (j:JV) (P:Sp.Pg) (vs:List Int) (Es:List Sp.Ed) (v:CV) (c:Sp.Cfg) (step:Nat) (w:World) (hj:JobR w j P vs Es) (hc:CfgR w vs.length v c) (hs:step≤100000) :
  Calls Tryz.prog 31 #[.agg (jobA j),.agg (cfgA vs.length v c.all),.int .i64 step] w fun e w'=>e = .returned (.int .i64 (Sp.endsR j.cap c step))∧Below w.heap.size w w':=by
 have HC:=hde hc
 have hn64:=hj.ok.n64
 have hcap:=hj.cap
 have hlv:=hc.ok.lv
 obtain⟨n,hn⟩:∃ n,vs.length=n:=⟨_,rfl⟩
 rw[hn] at HC hn64 hlv ⊢
 have HQ:Hid (Sp.quiet c step = !Sp.someTo c step n):=by show _=_;rw[Sp.quiet_some,hlv]
 have HB0:Hid (∀ W,W=(w.alloc (.cells (jobA j) 109)).alloc (.cells (cfgA n v c.all) 114)→W.heap[w.heap.size]? = some (.cells (jobA j) 109 (0,0))∧W.heap[w.heap.size+1]? = some (.cells (cfgA n v c.all) 114 (0,0))∧Below w.heap.size w W):=by
  show ∀ W,_
  rintro W rfl
  have z1:=World.size_alloc w (.cells (jobA j) 109)
  have b2:=heap_alloc_new (w.alloc (.cells (jobA j) 109)) (.cells (cfgA n v c.all) 114)
  rw[z1] at b2
  refine⟨?_,b2,((Below.refl _ w).alloc nlr _).alloc (by rw[z1];omega) _⟩
  rw[Below.heap_alloc _ _ _ (by rw[z1];omega)]
  exact heap_alloc_new w _
 clear hj hc hlv hn
 unfold jobA cfgA at *
 go_enter Tryz.func31,Tryz.ntmps31
 go_wp2_with fail
 generalize hW:World.alloc (World.alloc _ _) _=W0
 obtain⟨hbj,hbc,hb0⟩:=uh HB0 W0 hW.symm
 have HBJ:=hde hbj
 have HBC:=hde hbc
 have hCl:w.heap.size+1 < W0.heap.size:=(Array.getElem?_eq_some_iff.1 hbc).1
 clear hW HB0 hbj hbc
 go_loopw [7,8] (fun s i wr=>∃ k:Nat,k≤n∧i = .int .i64 k∧s = .bool (Sp.someTo c step k)∧Below W0.heap.size W0 wr) (fun _ i _=>n - (intOf i).toNat)
 case atStart=>exact⟨0,Nat.zero_le _,rfl,rfl,Below.refl _ _⟩
 case round =>
  obtain⟨k,hk,rfl,rfl,hb⟩:=hrel
  have hCb:=(hb.block (w.heap.size+1) hCl).trans (uh HBC)
  have hJb:=(hb.block w.heap.size (by omega)).trans (uh HBJ)
  have c0:wr.cell? ⟨w.heap.size+1,0,none⟩=some (.slice v.pv n v.kv):=by simp[World.cell?,hCb]
  have c1:wr.cell? ⟨w.heap.size+1,1,none⟩=some (.slice v.pr n v.kr):=by simp[World.cell?,hCb]
  have c2:wr.cell? ⟨w.heap.size+1,2,none⟩=some (.slice v.pg n v.kg):=by simp[World.cell?,hCb]
  have c3:wr.cell? ⟨w.heap.size+1,3,none⟩=some (.slice v.pi n v.ki):=by simp[World.cell?,hCb]
  have c4:wr.cell? ⟨w.heap.size+1,4,none⟩=some (.int .i64 c.all):=by simp[World.cell?,hCb]
  have j10:wr.cell? ⟨w.heap.size,10,none⟩=some (.int .i64 j.cap):=by simp[World.cell?,hJb]
  have hbw:Below w.heap.size w wr:=hb0.trans (hb.mono hb0.size)
  by_cases hlt:k < n
  ·have hltz:(k:Int) < (n:Int):=by omega
   have HA:=hde (rawake n v c k step wr ((uh HC).below hbw) hlt hn64 hs)
   have HST:Hid (Sp.someTo c step (k+1)=(Sp.someTo c step k || Sp.awake c k step)):=rfl
   obtain⟨aw,HAW⟩:∃ aw,Hid (Sp.awake c k step=aw):=⟨_,rfl⟩
   rw[uh HAW] at HA
   obtain⟨so,HSO⟩:∃ so,Hid (Sp.someTo c step k=so):=⟨_,rfl⟩
   rw[uh HSO]
   unfold cfgA at HA
   cases so with
   | false =>
    go_wp2_with fail
    refine(uh HA).mono ?_
    rintro e w2 ⟨rfl,hb2⟩
    go_wp2
    go_roundw
    case rel=>exact⟨k+1,by omega,by go_num,by rw[uh HST,uh HSO,uh HAW];rfl,hb.trans (hb2.mono hb.size)⟩
    case measure=>simp[intOf];omega
   | true =>
    go_wp2_with fail
    refine(uh HA).mono ?_
    rintro e w2 ⟨rfl,hb2⟩
    go_wp2
    go_roundw
    case rel=>exact⟨k+1,by omega,by go_num,by rw[uh HST,uh HSO];rfl,hb.trans (hb2.mono hb.size)⟩
    case measure=>simp[intOf];omega
  ·obtain rfl:k=n:=by omega
   have hltz:¬ (k:Int) < (k:Int):=by omega
   obtain⟨so,HSO⟩:∃ so,Hid (Sp.someTo c step k=so):=⟨_,rfl⟩
   rw[uh HSO]
   cases so with
   | false =>
    have HE:Hid (Sp.endsR j.cap c step=1):=by show _=_;unfold Sp.endsR;rw[uh HQ,uh HSO];rfl
    go_wp2
    go_ret
    exact⟨by rw[uh HE];rfl,hbw⟩
   | true =>
    have hq:¬ Sp.quiet c step=true:=by rw[uh HQ,uh HSO];simp
    by_cases hcs:j.cap≤step
    ·have HE:Hid (Sp.endsR j.cap c step=2):=by show _=_;unfold Sp.endsR;rw[if_neg hq,if_pos hcs]
     have hcz:(j.cap:Int)≤(step:Int):=by omega
     clear hq
     go_wp2
     go_ret
     exact⟨by rw[uh HE];rfl,hbw⟩
    ·have HE:Hid (Sp.endsR j.cap c step=0):=by show _=_;unfold Sp.endsR;rw[if_neg hq,if_neg hcs]
     have hcz:¬ (j.cap:Int)≤(step:Int):=by omega
     clear hq
     go_wp2
     go_ret
     exact⟨by rw[uh HE];rfl,hbw⟩
def pjobA (B:Nat) (pf:Option Addr) (n kf:Nat) (pe:Option Addr) (ke limit:Nat):Array Value := #[.pointer (some ⟨B,0,none⟩),.slice pf n kf,.slice pe n ke,.int .i64 limit]
theorem pending (B:Nat) (pf:Option Addr) (m kf:Nat) (pe:Option Addr) (ke limit step:Nat) (p:Option Addr) (n cap:Nat) (c:Sp.Cfg) (w:World) (hv:VxAt w p c n) (hl:c.val.length=n) (hn:n≤64) (hs:step≤100000) (hlim:limit≤200) :
  Calls Tryz.prog 38 #[.agg (pjobA B pf m kf pe ke limit),pcfgV step p n cap c.all] w fun e w'=>e = .returned (.int .u8 (Sp.endsR limit c step))∧Below w.heap.size w w':=by
 have HQ:=hde (fun W (hb:Below w.heap.size w W)=>pquiet step p n cap c W (hv.below hb) hl hn hs)
 have hb0:Below w.heap.size w ((w.alloc (.cells (pjobA B pf m kf pe ke limit) 86)).alloc (.cells #[.int .i64 (step:Int),.slice p n cap,.int .i64 c.all] 91)):=((Below.refl _ _).alloc nlr _).alloc (by simp) _
 have z1:=World.size_alloc w (.cells (pjobA B pf m kf pe ke limit) 86)
 have hbc:=heap_alloc_new (w.alloc (.cells (pjobA B pf m kf pe ke limit) 86)) (.cells #[.int .i64 (step:Int),.slice p n cap,.int .i64 c.all] 91)
 rw[z1] at hbc
 have hbj:((w.alloc (.cells (pjobA B pf m kf pe ke limit) 86)).alloc (.cells #[.int .i64 (step:Int),.slice p n cap,.int .i64 c.all] 91)).heap[w.heap.size]? = some (.cells (pjobA B pf m kf pe ke limit) 86 (0,0)):=by
  rw[Below.heap_alloc _ _ _ (by rw[z1];omega)]
  exact heap_alloc_new w _
 clear hv hl z1
 obtain⟨q,HQE⟩:∃ q,Hid (Sp.quiet c step=q):=⟨_,rfl⟩
 rw[uh HQE] at HQ
 have HEN:Hid (Sp.endsR limit c step=if q=true then 1 else if limit≤step then 2 else 0):=by show _=_;unfold Sp.endsR;rw[uh HQE]
 unfold pcfgV at HQ ⊢
 unfold pjobA at *
 go_enter Tryz.func38,Tryz.ntmps38
 go_wp2_with fail
 generalize hW:World.alloc (World.alloc _ _) _=W0 at *
 refine(uh HQ W0 hb0).mono ?_
 rintro e w1 ⟨rfl,hb1⟩
 have hC:w1.heap[w.heap.size+1]? = _:=(hb1.block _ (Array.getElem?_eq_some_iff.1 hbc).1).trans hbc
 have hJ:w1.heap[w.heap.size]? = _:=(hb1.block _ (Array.getElem?_eq_some_iff.1 hbj).1).trans hbj
 have c0:w1.cell? ⟨w.heap.size+1,0,none⟩=some (.int .i64 (step:Int)):=by simp[World.cell?,hC]
 have j3:w1.cell? ⟨w.heap.size,3,none⟩=some (.int .i64 (limit:Int)):=by simp[World.cell?,hJ]
 have HB:=hde (hb0.trans (hb1.mono hb0.size))
 clear hW hbc hbj hb0 hb1 hC hJ
 cases q with
 | true =>
  go_wp2
  go_ret
  exact⟨by rw[uh HEN];rfl,uh HB⟩
 | false =>
  by_cases hcs:limit≤step
  ·have hcz:(limit:Int)≤(step:Int):=by omega
   have HE2:Hid (Sp.endsR limit c step=2):=by show _=_;rw[uh HEN,if_neg (by simp),if_pos hcs]
   go_wp2
   go_ret
   exact⟨by rw[uh HE2];rfl,uh HB⟩
  ·have hcz:¬ (limit:Int)≤(step:Int):=by omega
   have HE2:Hid (Sp.endsR limit c step=0):=by show _=_;rw[uh HEN,if_neg (by simp),if_neg hcs]
   go_wp2
   go_ret
   exact⟨by rw[uh HE2];rfl,uh HB⟩
theorem pvalues (step:Nat) (p:Option Addr) (n cap:Nat) (c:Sp.Cfg) (w:World) (hv:VxAt w p c n) (hl:c.val.length=n) (hn:n≤64) :
  Calls Tryz.prog 39 #[pcfgV step p n cap c.all] w fun e w'=>Below w.heap.size w w'∧∃ v,e = .returned v∧w'.ownsRow w.heap.size 2 1 v n (c.val.map (Value.int .i64)):=by
 obtain⟨t2,ht2,hva,hvb,hvc⟩:=info_parts Tryz.info_i64
 have HV:=hde hv
 have HL:=hde hl
 clear hv hl
 unfold pcfgV
 have hb0:Below w.heap.size w (w.alloc (.cells #[.int .i64 (step:Int),.slice p n cap,.int .i64 c.all] 91)):=(Below.refl _ _).alloc nlr _
 have hz0:=World.size_alloc w (.cells #[.int .i64 (step:Int),.slice p n cap,.int .i64 c.all] 91)
 go_enter Tryz.func39,Tryz.ntmps39
 go_wp2_with fail
 generalize hW:World.alloc _ _=W0 at *
 have HZ:=hde hz0
 clear hW hz0
 go_loopw [3,9] (fun vv i wr=>∃ (k:Nat) (v:Value),k≤n∧i = .int .i64 k∧vv=v∧Hid (wr.ownsRow (w.heap.size+1) 2 1 v k ((c.val.take k).map (Value.int .i64)))∧Below (w.heap.size+1) W0 wr) (fun _ i _=>n - (intOf i).toNat)
 case atStart=>exact⟨0,_,Nat.zero_le _,rfl,rfl,World.ownsRow_nil _ _ _ _,Below.refl _ _⟩
 case round =>
  obtain⟨k,v,hk,rfl,hvv,HR,hb⟩:=hrel
  obtain rfl:=hvv.symm
  clear hvv
  have hbw:Below w.heap.size w wr:=hb0.trans (hb.mono (by omega))
  have hzw:w.heap.size+1≤wr.heap.size:=by have:=hb.size;have:=uh HZ;omega
  by_cases hlt:k < n
  ·have hltz:(k:Int) < (n:Int):=by omega
   have g0:(0:Int)≤(k:Int):=Int.natCast_nonneg _
   have hkv:k < c.val.length:=by rw[uh HL];exact hlt
   obtain⟨g,rfl,hg,d0,d1,d2,d3⟩:=((uh HV).below hbw) k hlt
   have HTK:Hid ((c.val.take (k+1)).map (Value.int .i64)=(c.val.take k).map (Value.int .i64)++[.int .i64 (c.val.getD k 0)]):=by
    show _=_
    rw[List.take_succ_eq_append_getElem hkv,List.map_append,List.getD_eq_getElem?_getD,List.getElem?_eq_getElem hkv];rfl
   generalize c.val.getD k 0=x0 at *
   generalize c.rst.getD k false=x1 at *
   generalize c.got.getD k 0=x2 at *
   generalize c.inn.getD k 0=x3 at *
   have hr:=uh HR
   go_wp2_with (first
    | (at_builtin;go_must (refine wpList_append_lies _ rfl (.tmp 13) (.tmp 16) 42 rfl (w.heap.size+1) 2 t2 _ 1 8 Tryz.underlying42 ht2 hva hvb hvc rfl (by omega) v _ _ rfl ((hr.alloc _).alloc _) ⟨wr.heap.size+1,0,none⟩ 1 1 [.int .i64 x0] rfl rfl (by
      intro j u hj
      match j,hj with
      | 0,hj=>simp at hj;subst hj;simp[Addr.add]) (by simp[Value.oneCell']) (by omega) (by unfold maxLen;omega) (by omega) (by simp;omega) (wr.heap.size+1+1) (by simp) ?_;intro g2 cp2 w2 hown hgrow hat hltq))
    | go_in)
   have hb2:Below (w.heap.size+1) W0 w2:=((hb.alloc hzw _).alloc (by simp;omega) _).grown hgrow (by simp;omega) (fun q hq=>(hr.lt q hq).1)
   have HR2:Hid (w2.ownsRow (w.heap.size+1) 2 1 (.slice (some ⟨g2,0,none⟩) (k+1) cp2) (k+1) ((c.val.take (k+1)).map (Value.int .i64))):=by
    show World.ownsRow _ _ _ _ _ _ _
    rw[uh HTK];exact hown
   clear hown hgrow hat hltq hr
   go_roundw
   case rel=>exact⟨k+1,_,by omega,by go_num,rfl,HR2,hb2⟩
   case measure=>simp[intOf];omega
  ·obtain rfl:k=n:=by omega
   have hltz:¬ (k:Int) < (k:Int):=by omega
   have HE:Hid (wr.ownsRow w.heap.size 2 1 v k (c.val.map (Value.int .i64))):=by
    have h:=own_low (uh HR) (Nat.le_succ w.heap.size)
    rw[← uh HL,List.take_length,uh HL] at h
    exact h
   go_wp2
   go_ret
   exact⟨hbw,v,rfl,uh HE⟩
end Go.Proofs.YteflnddphpjahaaGreatDoor
