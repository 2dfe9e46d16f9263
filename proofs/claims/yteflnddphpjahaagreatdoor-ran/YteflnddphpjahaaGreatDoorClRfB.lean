import Derived.Test.YteflnddphpjahaaGreatDoorClEvEtoRfA
import Derived.Test.YteflnddphpjahaaGreatDoorClRnOtoRnQ
import Derived.Deep.RegionHeld3
set_option linter.unusedVariables false
set_option linter.unusedSimpArgs false
set_option maxRecDepth 100000
set_option maxHeartbeats 16000000
namespace Go.Proofs.YteflnddphpjahaaGreatDoor
open Go.RowKit
theorem Tryz.info_sent:(Tryz.prog.info? 152).map (fun i=>(i.zero,i.size,i.bytes))=some (some (.agg #[.int .i64 0,.int .i64 0]),2,16):=by kernel_rfl
def sentCells (l:List (Nat × Int)):List Value:=l.flatMap fun m=>[Value.int .i64 (m.1:Int),.int .i64 m.2]
theorem sent_snoc (l:List (Nat × Int)) (m:Nat × Int):sentCells (l++[m])=sentCells l++[.int .i64 (m.1:Int),.int .i64 m.2]:=by simp[sentCells]
structure EnvAt (w:World) (S:Nat) (E:Sp.Ev):Prop where
 c0:w.cell? ⟨S,0,none⟩=some (.int .i64 E.value)
 c1:w.cell? ⟨S,1,none⟩=some (.int .i64 E.old)
 c2:w.cell? ⟨S,2,none⟩=some (.int .i64 E.inn)
 c3:w.cell? ⟨S,3,none⟩=some (.int .i64 E.got)
 c4:w.cell? ⟨S,4,none⟩=some (.int .i64 E.step)
 c5:w.cell? ⟨S,5,none⟩=some (.int .i64 E.id)
 c6:w.cell? ⟨S,6,none⟩=some (.int .i64 E.deg)
 c7:w.cell? ⟨S,7,none⟩=some (.int .i64 E.all)
 c8:w.cell? ⟨S,8,none⟩=some (.int .i64 E.weight)
 fz:∀ j,w.frozen? ⟨S,j,none⟩=false
def envA (E:Sp.Ev):Array Value := #[.int .i64 E.value,.int .i64 E.old,.int .i64 E.inn,.int .i64 E.got,.int .i64 E.step,.int .i64 E.id,.int .i64 E.deg,.int .i64 E.all,.int .i64 E.weight]
theorem EnvAt.lt {w:World} {S:Nat} {E:Sp.Ev} (h:EnvAt w S E):S < w.heap.size:=World.block_lt_of_cell? w _ h.c0
theorem EnvAt.far {w w':World} {S:Nat} {E:Sp.Ev} (h:EnvAt w S E) (hc:∀ j,w'.cell? ⟨S,j,none⟩=w.cell? ⟨S,j,none⟩) (hf:∀ j,w'.frozen? ⟨S,j,none⟩=w.frozen? ⟨S,j,none⟩):EnvAt w' S E :=
 ⟨(hc _).trans h.c0,(hc _).trans h.c1,(hc _).trans h.c2,(hc _).trans h.c3,(hc _).trans h.c4,(hc _).trans h.c5,(hc _).trans h.c6,(hc _).trans h.c7,(hc _).trans h.c8,fun j=>(hf j).trans (h.fz j)⟩
theorem EnvAt.below {w w':World} {S:Nat} {E:Sp.Ev} (h:EnvAt w S E) (hb:Below w.heap.size w w'):EnvAt w' S E :=
 h.far (fun j=>hb.cell (p:=⟨S,j,none⟩) h.lt) (fun j=>hb.frozen (p:=⟨S,j,none⟩) h.lt)
theorem EnvAt.new {w:World} {S t:Nat} {E:Sp.Ev} (h:w.heap[S]? = some (.cells (envA E) t)):EnvAt w S E :=
 ⟨by simp[World.cell?,h,envA],by simp[World.cell?,h,envA],by simp[World.cell?,h,envA],by simp[World.cell?,h,envA],by simp[World.cell?,h,envA],by simp[World.cell?,h,envA],by simp[World.cell?,h,envA],by simp[World.cell?,h,envA],by simp[World.cell?,h,envA],fun j=>by simp[World.frozen?,h]⟩
theorem EnvAt.setV {w:World} {S:Nat} {E:Sp.Ev} (h:EnvAt w S E) (v:Int):EnvAt (w.setCell ⟨S,0,none⟩ (.int .i64 v)) S (E.setV v):=by
 have ho:∀ j,j≠0→(w.setCell ⟨S,0,none⟩ (.int .i64 v)).cell? ⟨S,j,none⟩=w.cell? ⟨S,j,none⟩:=fun j hj=>cso (by omega)
 exact⟨World.cell?_setCell_same _ _ _ h.c0,(ho _ (by omega)).trans h.c1,(ho _ (by omega)).trans h.c2,(ho _ (by omega)).trans h.c3,(ho _ (by omega)).trans h.c4,(ho _ (by omega)).trans h.c5,(ho _ (by omega)).trans h.c6,(ho _ (by omega)).trans h.c7,(ho _ (by omega)).trans h.c8,fun j=>(World.frozen?_setCell _ _ _ _).trans (h.fz j)⟩
theorem EnvAt.setW {w:World} {S:Nat} {E:Sp.Ev} (h:EnvAt w S E) (v:Int):EnvAt (w.setCell ⟨S,8,none⟩ (.int .i64 v)) S (E.setW v):=by
 have ho:∀ j,j≠8→(w.setCell ⟨S,8,none⟩ (.int .i64 v)).cell? ⟨S,j,none⟩=w.cell? ⟨S,j,none⟩:=fun j hj=>cso (by omega)
 exact⟨(ho _ (by omega)).trans h.c0,(ho _ (by omega)).trans h.c1,(ho _ (by omega)).trans h.c2,(ho _ (by omega)).trans h.c3,(ho _ (by omega)).trans h.c4,(ho _ (by omega)).trans h.c5,(ho _ (by omega)).trans h.c6,(ho _ (by omega)).trans h.c7,World.cell?_setCell_same _ _ _ h.c8,fun j=>(World.frozen?_setCell _ _ _ _).trans (h.fz j)⟩
theorem cellb_other {W:World} {a b i j:Nat} {v:Value} (h:a≠b):(W.setCell ⟨a,i,none⟩ v).cell? ⟨b,j,none⟩=W.cell? ⟨b,j,none⟩:=
 World.cell?_setCell_other W ⟨a,i,none⟩ ⟨b,j,none⟩ v (by intro e;injection e with e _;exact h e)
theorem EnvAt.other {W:World} {S a i:Nat} {v:Value} {E:Sp.Ev} (h:EnvAt W S E) (hn:a≠S):EnvAt (W.setCell ⟨a,i,none⟩ v) S E :=
 h.far (fun j=>cellb_other hn) (fun j=>World.frozen?_setCell _ _ _ _)
structure RTurn (w:World) (T:Nat) (a:Int) (b:Bool) (c:Int) (sv:Value) (l:List (Nat × Int)):Prop where
 c0:w.cell? ⟨T,0,none⟩=some (.int .i64 a)
 c1:w.cell? ⟨T,1,none⟩=some (.bool b)
 c2:w.cell? ⟨T,2,none⟩=some (.int .i64 c)
 c3:w.cell? ⟨T,3,none⟩=some sv
 fz:∀ j,w.frozen? ⟨T,j,none⟩=false
 row:w.ownsRow (T+1) 152 2 sv l.length (sentCells l)
theorem RTurn.lt {w:World} {T:Nat} {a c:Int} {b:Bool} {sv:Value} {l:List (Nat × Int)} (h:RTurn w T a b c sv l):T < w.heap.size:=World.block_lt_of_cell? w _ h.c0
theorem RTurn.new {w:World} {T t:Nat} (h:w.heap[T]? = some (.cells #[.int .i64 0,.bool false,.int .i64 0,.slice none 0 0] t)):RTurn w T 0 false 0 (.slice none 0 0) []:=
 ⟨by simp[World.cell?,h],by simp[World.cell?,h],by simp[World.cell?,h],by simp[World.cell?,h],fun j=>by simp[World.frozen?,h],World.ownsRow_nil _ _ _ _⟩
theorem RTurn.below {w w':World} {T:Nat} {a c:Int} {b:Bool} {sv:Value} {l:List (Nat × Int)} (h:RTurn w T a b c sv l) (hb:Below w.heap.size w w'):RTurn w' T a b c sv l :=
 ⟨(hb.cell (p:=⟨T,0,none⟩) h.lt).trans h.c0,(hb.cell (p:=⟨T,1,none⟩) h.lt).trans h.c1,(hb.cell (p:=⟨T,2,none⟩) h.lt).trans h.c2,(hb.cell (p:=⟨T,3,none⟩) h.lt).trans h.c3,fun j=>(hb.frozen (p:=⟨T,j,none⟩) h.lt).trans (h.fz j),obl h.row hb⟩
theorem RTurn.other {w:World} {T q i:Nat} {v:Value} {a c:Int} {b:Bool} {sv:Value} {l:List (Nat × Int)} (h:RTurn w T a b c sv l) (hq:q < T):RTurn (w.setCell ⟨q,i,none⟩ v) T a b c sv l :=
 ⟨(cellb_other (by omega)).trans h.c0,(cellb_other (by omega)).trans h.c1,(cellb_other (by omega)).trans h.c2,(cellb_other (by omega)).trans h.c3,fun j=>(World.frozen?_setCell _ _ _ _).trans (h.fz j),ownsRow_setCell_below h.row (a:=⟨q,i,none⟩) (by show q < T+1;omega) v⟩
theorem RTurn.s0 {w:World} {T:Nat} {a c:Int} {b:Bool} {sv:Value} {l:List (Nat × Int)} (h:RTurn w T a b c sv l) (x:Int):RTurn (w.setCell ⟨T,0,none⟩ (.int .i64 x)) T x b c sv l :=
 ⟨World.cell?_setCell_same _ _ _ h.c0,(cso (by omega)).trans h.c1,(cso (by omega)).trans h.c2,(cso (by omega)).trans h.c3,fun j=>(World.frozen?_setCell _ _ _ _).trans (h.fz j),((Only.refl T w).set _ _).own h.row⟩
theorem RTurn.s1 {w:World} {T:Nat} {a c:Int} {b:Bool} {sv:Value} {l:List (Nat × Int)} (h:RTurn w T a b c sv l) (x:Bool):RTurn (w.setCell ⟨T,1,none⟩ (.bool x)) T a x c sv l :=
 ⟨(cso (by omega)).trans h.c0,World.cell?_setCell_same _ _ _ h.c1,(cso (by omega)).trans h.c2,(cso (by omega)).trans h.c3,fun j=>(World.frozen?_setCell _ _ _ _).trans (h.fz j),((Only.refl T w).set _ _).own h.row⟩
theorem RTurn.s2 {w:World} {T:Nat} {a c:Int} {b:Bool} {sv:Value} {l:List (Nat × Int)} (h:RTurn w T a b c sv l) (x:Int):RTurn (w.setCell ⟨T,2,none⟩ (.int .i64 x)) T a b x sv l :=
 ⟨(cso (by omega)).trans h.c0,(cso (by omega)).trans h.c1,World.cell?_setCell_same _ _ _ h.c2,(cso (by omega)).trans h.c3,fun j=>(World.frozen?_setCell _ _ _ _).trans (h.fz j),((Only.refl T w).set _ _).own h.row⟩
def RTPost (o:Option Sp.Tn) (w:World) (e:Ending) (w':World):Prop :=
 Below w.heap.size w w'∧match o with
  | some t=>∃ sv,e = .returned (.tuple #[.agg #[.int .i64 t.value,.bool t.rests,.int .i64 t.give,sv],.bool true])∧w'.ownsRow w.heap.size 152 2 sv t.sent.length (sentCells t.sent)
  | none=>∃ (a c:Int) (b:Bool) (p:Option Addr) (n k:Nat),e = .returned (.tuple #[.agg #[.int .i64 a,.bool b,.int .i64 c,.slice p n k],.bool false])
structure RBox (W:World) (J:Nat) (j:JV) (n:Nat) (v:CV) (all:Int):Prop where
 jb:W.heap[J]? = some (.cells (jobA j) 109 (0,0))
 cb:W.heap[J+1]? = some (.cells (cfgA n v all) 114 (0,0))
 rb:W.heap[J+1+1]? = some (.cells #[.int .i64 0,.bool false,.int .i64 0,.slice none 0 0] 147 (0,0))
theorem RBox.below {W W':World} {J:Nat} {j:JV} {n:Nat} {v:CV} {all:Int} (h:RBox W J j n v all) (hb:Below W.heap.size W W'):RBox W' J j n v all :=
 ⟨(hb.block _ (Array.getElem?_eq_some_iff.1 h.jb).1).trans h.jb,(hb.block _ (Array.getElem?_eq_some_iff.1 h.cb).1).trans h.cb,(hb.block _ (Array.getElem?_eq_some_iff.1 h.rb).1).trans h.rb⟩
def noPanR (Q:Exit→Act→World→Prop):Exit→Act→World→Prop
 | .panic _,_,_=>False
 | .normal,a,w=>Q .normal a w
 | .ret,a,w=>Q .ret a w
 | .exit n,a,w=>Q (.exit n) a w
 | .goto n,a,w=>Q (.goto n) a w
 | .outgrown,a,w=>Q .outgrown a w
theorem noPanR_mono {Q:Exit→Act→World→Prop}:∀ e a w,noPanR Q e a w→Q e a w:=fun e a w h=>by
 cases e <;> first | exact h | exact h.elim
theorem wp_joinR {P:Program} {c:Code} {Q:Exit→Act→World→Prop} {a:Act} {w:World} (R:World→Prop) (h:∃ A,c.wp P (noPanR fun x a' w'=>x = .normal∧a'=A∧R w') a w∧∀ w',R w'→Q .normal A w'):c.wp P Q a w:=by
 obtain⟨A,h1,h2⟩:=h
 refine Code.wp_mono (fun e a w h=>?_) h1
 obtain⟨rfl,rfl,hr⟩:=noPanR_mono _ _ _ h
 exact h2 _ hr
structure RInv (W0 W:World) (S T:Nat) (E:Sp.Ev) (a:Int) (b:Bool) (c:Int) (sv:Value) (l:List (Nat × Int)):Prop where
 en:EnvAt W S E
 tn:RTurn W T a b c sv l
 bel:Below W0.heap.size W0 W
 st:S < T
 s0:W0.heap.size≤S
theorem RInv.below {W0 W W':World} {S T:Nat} {E:Sp.Ev} {a c:Int} {b:Bool} {sv:Value} {l:List (Nat × Int)} (h:RInv W0 W S T E a b c sv l) (hb:Below W.heap.size W W'):RInv W0 W' S T E a b c sv l :=
 ⟨h.en.below hb,h.tn.below hb,h.bel.trans (hb.mono h.bel.size),h.st,h.s0⟩
theorem RInv.setV {W0 W:World} {S T:Nat} {E:Sp.Ev} {a c:Int} {b:Bool} {sv:Value} {l:List (Nat × Int)} (h:RInv W0 W S T E a b c sv l) (x:Int):RInv W0 (W.setCell ⟨S,0,none⟩ (.int .i64 x)) S T (E.setV x) a b c sv l :=
 ⟨h.en.setV x,h.tn.other h.st,h.bel.setCell (p:=⟨S,0,none⟩) h.s0 _,h.st,h.s0⟩
theorem RInv.setW {W0 W:World} {S T:Nat} {E:Sp.Ev} {a c:Int} {b:Bool} {sv:Value} {l:List (Nat × Int)} (h:RInv W0 W S T E a b c sv l) (x:Int):RInv W0 (W.setCell ⟨S,8,none⟩ (.int .i64 x)) S T (E.setW x) a b c sv l :=
 ⟨h.en.setW x,h.tn.other h.st,h.bel.setCell (p:=⟨S,8,none⟩) h.s0 _,h.st,h.s0⟩
theorem RInv.t0 {W0 W:World} {S T:Nat} {E:Sp.Ev} {a c:Int} {b:Bool} {sv:Value} {l:List (Nat × Int)} (h:RInv W0 W S T E a b c sv l) (x:Int):RInv W0 (W.setCell ⟨T,0,none⟩ (.int .i64 x)) S T E x b c sv l :=
 ⟨h.en.other (by have:=h.st;omega),h.tn.s0 x,h.bel.setCell (p:=⟨T,0,none⟩) (by have:=h.st;have:=h.s0;show W0.heap.size≤T;omega) _,h.st,h.s0⟩
theorem RInv.t1 {W0 W:World} {S T:Nat} {E:Sp.Ev} {a c:Int} {b:Bool} {sv:Value} {l:List (Nat × Int)} (h:RInv W0 W S T E a b c sv l) (x:Bool):RInv W0 (W.setCell ⟨T,1,none⟩ (.bool x)) S T E a x c sv l :=
 ⟨h.en.other (by have:=h.st;omega),h.tn.s1 x,h.bel.setCell (p:=⟨T,1,none⟩) (by have:=h.st;have:=h.s0;show W0.heap.size≤T;omega) _,h.st,h.s0⟩
theorem RInv.t2 {W0 W:World} {S T:Nat} {E:Sp.Ev} {a c:Int} {b:Bool} {sv:Value} {l:List (Nat × Int)} (h:RInv W0 W S T E a b c sv l) (x:Int):RInv W0 (W.setCell ⟨T,2,none⟩ (.int .i64 x)) S T E a b x sv l :=
 ⟨h.en.other (by have:=h.st;omega),h.tn.s2 x,h.bel.setCell (p:=⟨T,2,none⟩) (by have:=h.st;have:=h.s0;show W0.heap.size≤T;omega) _,h.st,h.s0⟩
theorem RInv.app {W0 W W1:World} {S T:Nat} {E:Sp.Ev} {a c:Int} {b:Bool} {sv sv':Value} {l:List (Nat × Int)} {m:Nat × Int} (h:RInv W0 W S T E a b c sv l) (hg:W.grownBy W1 sv.ownBlock) (hr:W1.ownsRow (T+1) 152 2 sv' (l.length+1) (sentCells l++[.int .i64 (m.1:Int),.int .i64 m.2])):RInv W0 (W1.setCell ⟨T,3,none⟩ sv') S T E a b c sv' (l++[m]):=by
 have hlT:=h.tn.lt
 have hneT:some T≠sv.ownBlock:=fun e=>by have:=(h.tn.row.lt T e.symm).1;omega
 have hneS:some S≠sv.ownBlock:=fun e=>by have:=(h.tn.row.lt S e.symm).1;have:=h.st;omega
 have hc:∀ j,W1.cell? ⟨T,j,none⟩=W.cell? ⟨T,j,none⟩:=fun j=>hg.cell_far ⟨T,j,none⟩ hlT hneT
 refine⟨(h.en.far (fun j=>hg.cell_far ⟨S,j,none⟩ h.en.lt hneS) (fun j=>hg.frozen_far ⟨S,j,none⟩ h.en.lt hneS)).other (by have:=h.st;omega),⟨(cso (by omega)).trans ((hc 0).trans h.tn.c0),(cso (by omega)).trans ((hc 1).trans h.tn.c1),(cso (by omega)).trans ((hc 2).trans h.tn.c2),World.cell?_setCell_same _ _ _ ((hc 3).trans h.tn.c3),fun j=>(World.frozen?_setCell _ _ _ _).trans ((hg.frozen_far ⟨T,j,none⟩ hlT hneT).trans (h.tn.fz j)),?_⟩,?_,h.st,h.s0⟩
 ·rw[List.length_append,sent_snoc];exact((Only.refl T W1).set _ _).own hr
 ·exact(h.bel.grown hg h.bel.size (fun k hk=>by have:=(h.tn.row.lt k hk).1;have:=h.st;have:=h.s0;omega)).setCell (p:=⟨T,3,none⟩) (by have:=h.st;have:=h.s0;show W0.heap.size≤T;omega) _
def set4 (W:World) (R:Nat) (a:Int) (b:Bool) (c:Int) (sv:Value):World:=(((W.setCell ⟨R,0,none⟩ (.int .i64 a)).setCell ⟨R,1,none⟩ (.bool b)).setCell ⟨R,2,none⟩ (.int .i64 c)).setCell ⟨R,3,none⟩ sv
theorem below_set4 {w W:World} {R:Nat} (h:Below w.heap.size w W) (hR:w.heap.size≤R) (a:Int) (b:Bool) (c:Int) (sv:Value):Below w.heap.size w (set4 W R a b c sv):=
 (((h.setCell (p:=⟨R,0,none⟩) hR _).setCell (p:=⟨R,1,none⟩) hR _).setCell (p:=⟨R,2,none⟩) hR _).setCell (p:=⟨R,3,none⟩) hR _
theorem own_set4 {W:World} {R B e size n:Nat} {v:Value} {xs:List Value} (h:W.ownsRow B e size v n xs) (hR:R < B) (a:Int) (b:Bool) (c:Int) (sv:Value):(set4 W R a b c sv).ownsRow B e size v n xs :=
 ownsRow_setCell_below (ownsRow_setCell_below (ownsRow_setCell_below (ownsRow_setCell_below h (a:=⟨R,0,none⟩) hR _) (a:=⟨R,1,none⟩) hR _) (a:=⟨R,2,none⟩) hR _) (a:=⟨R,3,none⟩) hR _
theorem rfin_none {P:Sp.Pg} {Es:List Sp.Ed} {c:Sp.Cfg} {i step:Nat} {w W0 W:World} {O:Ending→World→Prop} {S T:Nat} {E:Sp.Ev} {a d:Int} {b:Bool} {p:Option Addr} {n k:Nat} {l:List (Nat × Int)} (hO:RTPost (Sp.turn P Es c i step) w=O) (ht:Sp.turn P Es c i step=none) (hb0:Below w.heap.size w W0) (h:RInv W0 W S T E a b d (.slice p n k) l) :
  O (.returned (.tuple #[.agg #[.int .i64 a,.bool b,.int .i64 d,.slice p n k],.bool false])) (set4 W (w.heap.size+1+1) a b d (.slice p n k)):=by
 rw[← hO,ht]
 exact⟨below_set4 (hb0.trans (h.bel.mono hb0.size)) (by omega) _ _ _ _,a,d,b,p,n,k,rfl⟩
theorem rfin_some {P:Sp.Pg} {Es:List Sp.Ed} {c:Sp.Cfg} {i step:Nat} {w W0 W:World} {O:Ending→World→Prop} {S T:Nat} {E:Sp.Ev} {sv:Value} {t:Sp.Tn} (hO:RTPost (Sp.turn P Es c i step) w=O) (ht:Sp.turn P Es c i step=some t) (hb0:Below w.heap.size w W0) (hz:W0.heap.size=w.heap.size+1+1+1) (h:RInv W0 W S T E t.value t.rests t.give sv t.sent) :
  O (.returned (.tuple #[.agg #[.int .i64 t.value,.bool t.rests,.int .i64 t.give,sv],.bool true])) (set4 W (w.heap.size+1+1) t.value t.rests t.give sv):=by
 rw[← hO,ht]
 have:=h.st
 have:=h.s0
 exact⟨below_set4 (hb0.trans (h.bel.mono hb0.size)) (by omega) _ _ _ _,sv,rfl,own_low (own_set4 h.tn.row (by omega) _ _ _ _) (by omega)⟩
def SoFar (L:List (List UInt8)) (E:Sp.Ev) (es:List Sp.Ed) (goes:Int) (l:List (Nat × Int)):Prop:=(goes=0∧l=[])∨(goes≠0∧Sp.msgs L E es=some l)
theorem SoFar.done {L:List (List UInt8)} {E:Sp.Ev} {es:List Sp.Ed} {goes:Int} {l:List (Nat × Int)} (h:SoFar L E es goes l):(if goes=0 then some [] else Sp.msgs L E es)=some l:=by
 rcases h with ⟨h1,rfl⟩ | ⟨h1,h2⟩
 ·rw[if_pos h1]
 ·rw[if_neg h1,h2]
theorem msgs_snoc {L:List (List UInt8)} {E:Sp.Ev} {A:List Sp.Ed} {l:List (Nat × Int)} (h:Sp.msgs L E A=some l) (x:Sp.Ed):Sp.msgs L E (A++[x])=match Sp.ev L (E.setW x.n) with
  | none=>none
  | some m=>some (l++[(x.to,m)]):=by
 rw[Sp.msgs_append,h]
 simp only[Sp.msgs]
 cases Sp.ev L (E.setW x.n) <;> rfl
theorem msgs_pre {L:List (List UInt8)} {E:Sp.Ev} {Es:List Sp.Ed} {k i:Nat} (h:Sp.msgs L E (Sp.outE (Es.take k) i)=none):Sp.msgs L E (Sp.outE Es i)=none:=by
 have e:Sp.outE Es i=Sp.outE (Es.take k) i++Sp.outE (Es.drop k) i:=by unfold Sp.outE;rw[← List.filter_append,List.take_append_drop]
 rw[e,Sp.msgs_append,h]
theorem outE_take {Es:List Sp.Ed} {k i:Nat} (hk:k < Es.length):Sp.outE (Es.take (k+1)) i=Sp.outE (Es.take k) i++(if Es[k].frm=i then [Es[k]] else []):=by
 rw[List.take_succ_eq_append_getElem hk]
 unfold Sp.outE
 rw[List.filter_append]
 congr 1
 by_cases c:Es[k].frm=i
 ·simp[c]
 ·simp[c]
theorem rturn_any (j:JV) (P:Sp.Pg) (vs:List Int) (Es:List Sp.Ed) (v:CV) (c:Sp.Cfg) (i step:Nat) (w:World) (hj:JobR w j P vs Es) (hc:CfgR w vs.length v c) (hi:i < vs.length) (hs:step≤100000) :
  Calls Tryz.prog 57 #[.agg (jobA j),.agg (cfgA vs.length v c.all),.int .i64 i,.int .i64 step] w (RTPost (Sp.turn P Es c i step) w):=by
 have hE0:=Sp.env0_ok hc.ok (deg:=(Sp.outE Es i).length) hi (by have:=Sp.outE_len Es i;have:=hj.ok.es;omega) hj.ok.n64 hs
 generalize hO:RTPost (Sp.turn P Es c i step) w=O
 replace hO:=hde hO
 have HJ:=hde hj
 have HC:=hde hc
 have HED:=hde hE0
 have hel:=hj.ok.es
 have hn64:=hj.ok.n64
 have HNE:=hde hj.ne
 obtain⟨n,hn⟩:∃ n,vs.length=n:=⟨_,rfl⟩
 rw[hn] at hi hn64
 have HN:=hde hn
 have HB0:Hid (∀ W,W=((w.alloc (.cells (jobA j) 109)).alloc (.cells (cfgA n v c.all) 114)).alloc (.cells #[.int .i64 0,.bool false,.int .i64 0,.slice none 0 0] 147)→RBox W w.heap.size j n v c.all∧Below w.heap.size w W∧W.heap.size=w.heap.size+1+1+1):=by
  show ∀ W,_
  rintro W rfl
  have z1:=World.size_alloc w (.cells (jobA j) 109)
  have z2:=World.size_alloc (w.alloc (.cells (jobA j) 109)) (.cells (cfgA n v c.all) 114)
  have z3:=World.size_alloc ((w.alloc (.cells (jobA j) 109)).alloc (.cells (cfgA n v c.all) 114)) (.cells #[.int .i64 0,.bool false,.int .i64 0,.slice none 0 0] 147)
  have b1:=heap_alloc_new w (.cells (jobA j) 109)
  have b2:=heap_alloc_new (w.alloc (.cells (jobA j) 109)) (.cells (cfgA n v c.all) 114)
  have b3:=heap_alloc_new ((w.alloc (.cells (jobA j) 109)).alloc (.cells (cfgA n v c.all) 114)) (.cells #[.int .i64 0,.bool false,.int .i64 0,.slice none 0 0] 147)
  rw[z1] at b2
  rw[z2,z1] at b3
  refine⟨⟨?_,?_,b3⟩,((((Below.refl _ w).alloc nlr _).alloc (by rw[z1];omega) _).alloc (by rw[z2,z1];omega) _),by omega⟩
  ·rw[Below.heap_alloc _ _ _ (by omega),Below.heap_alloc _ _ _ (by omega)];exact b1
  ·rw[Below.heap_alloc _ _ _ (by omega)];exact b2
 rw[hn]
 clear hj hc hE0 hn
 unfold jobA cfgA at *
 go_enter Tryz.func57,Tryz.ntmps57
 go_wp2_with fail
 generalize hW:World.alloc _ (.cells #[.int .i64 0,.bool false,.int .i64 0,.slice none 0 0] 147)=W0
 obtain⟨hbx,hb0,hz0⟩:=uh HB0 W0 hW.symm
 clear hW HB0
 have HZ0:=hde hz0
 have HBX:=hde hbx
 have jc2:W0.cell? ⟨w.heap.size,2,none⟩=some (.slice j.pe j.ne j.ke):=by simp[World.cell?,hbx.jb,jobA]
 clear hbx hz0
 go_loopw [10,11] (fun d k wr=>∃ a:Nat,a≤Es.length∧k = .int .i64 a∧d = .int .i64 ((Sp.outE (Es.take a) i).length:Nat)∧wr=W0) (fun _ k _=>Es.length - (intOf k).toNat)
 case atStart=>exact⟨0,Nat.zero_le _,rfl,rfl,rfl⟩
 case round =>
  obtain⟨a,ha,rfl,rfl,hwr⟩:=hrel
  obtain rfl:=hwr.symm
  clear hwr
  have hdl:(Sp.outE (Es.take a) i).length≤1000:=by have:=Sp.outE_len (Es.take a) i;rw[List.length_take] at this;omega
  by_cases hlt:a < Es.length
  ·have hltz:(a:Int) < (j.ne:Int):=by rw[uh HNE];omega
   have g0:(0:Int)≤(a:Int):=Int.natCast_nonneg _
   obtain⟨ge,hpe,hge,d0,d1,d2⟩:=((uh HJ).e.below hb0) a hlt
   rw[hpe] at jc2
   have hta:=outE_take (i:=i) hlt
   by_cases hf:Es[a].frm=i
   ·rw[if_pos hf] at hta
    have hfz:(((Es[a].frm:Nat):Int) == (i:Int))=true:=beq_iff_eq.2 (by omega)
    have HLN:Hid ((Sp.outE (Es.take (a+1)) i).length=(Sp.outE (Es.take a) i).length+1):=by show _=_;rw[hta];simp
    generalize (Sp.outE (Es.take a) i).length=dl at *
    clear hf hta hpe
    go_wp2
    go_roundw
    case rel=>exact⟨a+1,by omega,by go_num,by rw[uh HLN];go_num,by trivial⟩
    case measure=>simp[intOf];omega
   ·rw[if_neg hf] at hta
    have hfz:(((Es[a].frm:Nat):Int) == (i:Int))=false:=beq_eq_false_iff_ne.2 (by omega)
    have HLN:Hid ((Sp.outE (Es.take (a+1)) i).length=(Sp.outE (Es.take a) i).length):=by show _=_;rw[hta];simp
    generalize (Sp.outE (Es.take a) i).length=dl at *
    clear hf hta hpe
    go_wp2
    go_roundw
    case rel=>exact⟨a+1,by omega,by go_num,by rw[uh HLN],by trivial⟩
    case measure=>simp[intOf];omega
  ·have hltz:¬ (a:Int) < (j.ne:Int):=by rw[uh HNE];omega
   obtain rfl:a=Es.length:=by omega
   rw[List.take_length] at hdl ⊢
   obtain⟨gv,gr,gg,gi,e1,e2,e3,e4,l1,l2,l3,l4,x1,x2,x3,x4⟩:=((uh HC).below hb0).at (by rw[uh HN];exact hi)
   have y0:W0.cell? ⟨w.heap.size+1,0,none⟩=some (.slice (some ⟨gv,0,none⟩) n v.kv):=by rw[← e1];simp[World.cell?,(uh HBX).cb,cfgA]
   have y2:W0.cell? ⟨w.heap.size+1,2,none⟩=some (.slice (some ⟨gg,0,none⟩) n v.kg):=by rw[← e3];simp[World.cell?,(uh HBX).cb,cfgA]
   have y3:W0.cell? ⟨w.heap.size+1,3,none⟩=some (.slice (some ⟨gi,0,none⟩) n v.ki):=by rw[← e4];simp[World.cell?,(uh HBX).cb,cfgA]
   have y4:W0.cell? ⟨w.heap.size+1,4,none⟩=some (.int .i64 c.all):=by simp[World.cell?,(uh HBX).cb,cfgA]
   obtain⟨E,HEE⟩:∃ E,Hid (Sp.env0 c (Sp.outE Es i).length i step=E):=⟨_,rfl⟩
   have z1:c.val.getD i 0=E.value:=by rw[← uh HEE];rfl
   have z2:c.got.getD i 0=E.got:=by rw[← uh HEE];rfl
   have z3:c.inn.getD i 0=E.inn:=by rw[← uh HEE];rfl
   have z4:c.all=E.all:=by rw[← uh HEE];rfl
   rw[z1] at x1
   rw[z2] at x3
   rw[z3] at x4
   rw[z4] at y4
   have g0:(0:Int)≤(i:Int):=Int.natCast_nonneg _
   have g1:(i:Int) < (n:Int):=by omega
   have HEV:Hid (envA E = #[.int .i64 E.value,.int .i64 E.value,.int .i64 E.inn,.int .i64 E.got,.int .i64 (step:Int),.int .i64 (i:Int),.int .i64 ((Sp.outE Es i).length:Int),.int .i64 E.all,.int .i64 0]):=by show _=_;rw[← uh HEE];rfl
   have HTE:Hid (Sp.turn P Es c i step=Sp.turnE P E (Sp.outE Es i)):=by show _=_;rw[← uh HEE];rfl
   generalize (Sp.outE Es i).length=dl at *
   clear z1 z2 z3 z4 e1 e2 e3 e4 x2 l2
   have hZ:Below W0.heap.size W0 (W0.alloc (.cells #[.int .i64 0,.int .i64 0,.int .i64 0,.int .i64 0,.int .i64 0,.int .i64 0,.int .i64 0,.int .i64 0,.int .i64 0] 231)):=(Below.refl _ _).alloc nlr _
   have hC1:w.heap.size+1 < W0.heap.size:=by have:=uh HZ0;omega
   clear hZ
   have hZE:Hid (∀ W,W=(W0.alloc (.cells #[.int .i64 E.value,.int .i64 E.value,.int .i64 E.inn,.int .i64 E.got,.int .i64 (step:Int),.int .i64 (i:Int),.int .i64 (dl:Int),.int .i64 E.all,.int .i64 0] 231)).drew→EnvAt W W0.heap.size E∧Below W0.heap.size W0 W∧W.heap.size=W0.heap.size+1):=by
    show ∀ W,_
    rintro W rfl
    have h:=heap_alloc_new W0 (.cells #[.int .i64 E.value,.int .i64 E.value,.int .i64 E.inn,.int .i64 E.got,.int .i64 (step:Int),.int .i64 (i:Int),.int .i64 (dl:Int),.int .i64 E.all,.int .i64 0] 231)
    refine⟨EnvAt.new (t:=231) (by rw[uh HEV];exact h),((Below.refl _ _).alloc nlr _).drew,by simp⟩
   have HOK:Hid (Sp.EvOk E):=by show Sp.EvOk E;rw[← uh HEE];exact uh HED
   go_upto_region 7 with fail
   apply wp_joinR (fun w'=>w'=(W0.alloc (.cells #[.int .i64 E.value,.int .i64 E.value,.int .i64 E.inn,.int .i64 E.got,.int .i64 (step:Int),.int .i64 (i:Int),.int .i64 (dl:Int),.int .i64 E.all,.int .i64 0] 231)).drew)
   apply Exists.intro
   apply And.intro
   case left =>
    go_region_held3 (fun w'=>w'.cell? ⟨gv,i,none⟩=some (.int .i64 E.value)∧w'.cell? ⟨gg,i,none⟩=some (.int .i64 E.got)∧w'.cell? ⟨gi,i,none⟩=some (.int .i64 E.inn)∧w'.cell? ⟨w.heap.size+1,0,none⟩=some (.slice (some ⟨gv,0,none⟩) n v.kv)∧w'.cell? ⟨w.heap.size+1,2,none⟩=some (.slice (some ⟨gg,0,none⟩) n v.kg)∧w'.cell? ⟨w.heap.size+1,3,none⟩=some (.slice (some ⟨gi,0,none⟩) n v.ki)∧w'.cell? ⟨w.heap.size+1,4,none⟩=some (.int .i64 E.all))
     (first | (go_keep;done))
     (first | fail)
    exact⟨rfl,rfl,rfl⟩
   case right =>
   rintro w' hw'
   obtain⟨hen,hbn,hzn⟩:=uh hZE w' hw'
   clear hw' hZE x1 x3 x4 y0 y2 y3 y4 l1 l3 l4 hC1 jc2 hltz hdl
   have HI0:Hid (RInv W0 (w'.alloc (.cells #[.int .i64 0,.bool false,.int .i64 0,.slice none 0 0] 147)) W0.heap.size w'.heap.size E 0 false 0 (.slice none 0 0) []):=by
    have h:=heap_alloc_new w' (.cells #[.int .i64 0,.bool false,.int .i64 0,.slice none 0 0] 147)
    have hA:Below w'.heap.size w' (w'.alloc (.cells #[.int .i64 0,.bool false,.int .i64 0,.slice none 0 0] 147)):=(Below.refl _ _).alloc nlr _
    exact⟨hen.below hA,RTurn.new h,hbn.trans (hA.mono hbn.size),by omega,Nat.le_refl _⟩
   clear hen hbn hzn
   go_upto_region 9 with fail
   generalize World.alloc _ _=W1 at HI0 ⊢
   generalize w'.heap.size=T at HI0 ⊢
   have y0:=(uh HI0).en.c0
   have y1:=(uh HI0).en.c1
   have y2:=(uh HI0).en.c2
   have y3:=(uh HI0).en.c3
   have y4:=(uh HI0).en.c4
   have y5:=(uh HI0).en.c5
   have y6:=(uh HI0).en.c6
   have y7:=(uh HI0).en.c7
   have y8:=(uh HI0).en.c8
   have kj:W1.cell? ⟨w.heap.size,3,none⟩=some (.slice j.p0 j.l0 j.k0):=by simp[World.cell?,((uh HBX).below (uh HI0).bel).jb,jobA]
   have HEC:Hid (Calls Tryz.prog 111 #[.slice j.p0 j.l0 j.k0,envV E] W1 (EPost (Sp.ev (P.code 0) E) W1)):=by
    have h:=(uh HJ).c0.eval (k:=j.k0) (hb0.trans ((uh HI0).bel.mono hb0.size)) ((uh HJ).ok.good 0 (by omega)) (E:=E) (uh HOK)
    exact h
   cases hev:Sp.ev (P.code 0) E with
   | none =>
    rw[hev] at HEC
    go_wp2_with fail
    refine(uh HEC).mono ?_
    rintro e w2 ⟨hb2,rfl⟩
    replace HI0:=hde ((uh HI0).below hb2)
    clear y0 y1 y2 y3 y4 y5 y6 y7 y8 kj HEC hb2
    obtain⟨ps,ks,hsv,_⟩:=osl (uh HI0).tn.row
    rw[hsv] at HI0
    have HFN:Hid (O (.returned (.tuple #[.agg #[.int .i64 0,.bool false,.int .i64 0,.slice ps 0 ks],.bool false])) (set4 w2 (w.heap.size+1+1) 0 false 0 (.slice ps 0 ks))):=by
     have hz:Sp.turn P Es c i step=none:=by
      rw[uh HTE]
      unfold Sp.turnE
      rw[hev]
     exact rfin_none (uh hO) hz hb0 (uh HI0)
    have r0:w2.cell? ⟨w.heap.size+1+1,0,none⟩=some (.int .i64 0):=by simp[World.cell?,((uh HBX).below (uh HI0).bel).rb]
    have rf0:w2.frozen? ⟨w.heap.size+1+1,0,none⟩=false:=by simp[World.frozen?,((uh HBX).below (uh HI0).bel).rb]
    have r1:w2.cell? ⟨w.heap.size+1+1,1,none⟩=some (.bool false):=by simp[World.cell?,((uh HBX).below (uh HI0).bel).rb]
    have rf1:w2.frozen? ⟨w.heap.size+1+1,1,none⟩=false:=by simp[World.frozen?,((uh HBX).below (uh HI0).bel).rb]
    have r2:w2.cell? ⟨w.heap.size+1+1,2,none⟩=some (.int .i64 0):=by simp[World.cell?,((uh HBX).below (uh HI0).bel).rb]
    have rf2:w2.frozen? ⟨w.heap.size+1+1,2,none⟩=false:=by simp[World.frozen?,((uh HBX).below (uh HI0).bel).rb]
    have r3:w2.cell? ⟨w.heap.size+1+1,3,none⟩=some (.slice none 0 0):=by simp[World.cell?,((uh HBX).below (uh HI0).bel).rb]
    have rf3:w2.frozen? ⟨w.heap.size+1+1,3,none⟩=false:=by simp[World.frozen?,((uh HBX).below (uh HI0).bel).rb]
    have t0:=(uh HI0).tn.c0
    have t1:=(uh HI0).tn.c1
    have t2:=(uh HI0).tn.c2
    have t3:=(uh HI0).tn.c3
    clear HI0 hsv hev
    go_wp2
    exact bodyPost_ret (v := .tuple #[.agg #[.int .i64 0,.bool false,.int .i64 0,.slice ps 0 ks],.bool false]) (by simp[results,Tryz.results57,go_sem,r0,r1,r2,r3]) rfl (uh HFN)
   | some v0 =>
    rw[hev] at HEC
    have HE0:=hde hev
    have HOK1:Hid (Sp.EvOk (E.setV v0)):=(uh HOK).setV (Sp.ev_ok (uh HOK) num_i64 hev)
    clear hev
    go_wp2_with fail
    refine(uh HEC).mono ?_
    rintro e w2 ⟨hb2,rfl⟩
    replace HI0:=hde ((uh HI0).below hb2)
    clear y0 y1 y2 y3 y4 y5 y6 y7 y8 kj HEC hb2
    have t0:=(uh HI0).tn.c0
    have tf0:=(uh HI0).tn.fz 0
    have e0:=(uh HI0).en.c0
    have ef0:=(uh HI0).en.fz 0
    have HI1:=hde (((uh HI0).setV v0).t0 v0)
    have hST:W0.heap.size≠T:=by have:=(uh HI0).st;omega
    clear HI0
    go_upto_region 14 with fail
    generalize World.setCell _ _ _=W2 at HI1 ⊢
    clear t0 tf0 e0 ef0 hST
    have y0:=(uh HI1).en.c0
    have y1:=(uh HI1).en.c1
    have y2:=(uh HI1).en.c2
    have y3:=(uh HI1).en.c3
    have y4:=(uh HI1).en.c4
    have y5:=(uh HI1).en.c5
    have y6:=(uh HI1).en.c6
    have y7:=(uh HI1).en.c7
    have y8:=(uh HI1).en.c8
    have kj:W2.cell? ⟨w.heap.size,4,none⟩=some (.slice j.p1 j.l1 j.k1):=by simp[World.cell?,((uh HBX).below (uh HI1).bel).jb,jobA]
    have HEC:Hid (Calls Tryz.prog 111 #[.slice j.p1 j.l1 j.k1,envV (E.setV v0)] W2 (EPost (Sp.ev (P.code 1) (E.setV v0)) W2)):=by
     have h:=(uh HJ).c1.eval (k:=j.k1) (hb0.trans ((uh HI1).bel.mono hb0.size)) ((uh HJ).ok.good 1 (by omega)) (E:=(E.setV v0)) (uh HOK1)
     exact h
    cases hev:Sp.ev (P.code 1) (E.setV v0) with
    | none =>
     rw[hev] at HEC
     go_wp2_with fail
     refine(uh HEC).mono ?_
     rintro e w3 ⟨hb3,rfl⟩
     replace HI1:=hde ((uh HI1).below hb3)
     clear y0 y1 y2 y3 y4 y5 y6 y7 y8 kj HEC hb3
     obtain⟨ps,ks,hsv,_⟩:=osl (uh HI1).tn.row
     rw[hsv] at HI1
     have HFN:Hid (O (.returned (.tuple #[.agg #[.int .i64 v0,.bool false,.int .i64 0,.slice ps 0 ks],.bool false])) (set4 w3 (w.heap.size+1+1) v0 false 0 (.slice ps 0 ks))):=by
      have hz:Sp.turn P Es c i step=none:=by
       rw[uh HTE]
       unfold Sp.turnE
       rw[uh HE0]
       simp only
       rw[hev]
      exact rfin_none (uh hO) hz hb0 (uh HI1)
     have r0:w3.cell? ⟨w.heap.size+1+1,0,none⟩=some (.int .i64 0):=by simp[World.cell?,((uh HBX).below (uh HI1).bel).rb]
     have rf0:w3.frozen? ⟨w.heap.size+1+1,0,none⟩=false:=by simp[World.frozen?,((uh HBX).below (uh HI1).bel).rb]
     have r1:w3.cell? ⟨w.heap.size+1+1,1,none⟩=some (.bool false):=by simp[World.cell?,((uh HBX).below (uh HI1).bel).rb]
     have rf1:w3.frozen? ⟨w.heap.size+1+1,1,none⟩=false:=by simp[World.frozen?,((uh HBX).below (uh HI1).bel).rb]
     have r2:w3.cell? ⟨w.heap.size+1+1,2,none⟩=some (.int .i64 0):=by simp[World.cell?,((uh HBX).below (uh HI1).bel).rb]
     have rf2:w3.frozen? ⟨w.heap.size+1+1,2,none⟩=false:=by simp[World.frozen?,((uh HBX).below (uh HI1).bel).rb]
     have r3:w3.cell? ⟨w.heap.size+1+1,3,none⟩=some (.slice none 0 0):=by simp[World.cell?,((uh HBX).below (uh HI1).bel).rb]
     have rf3:w3.frozen? ⟨w.heap.size+1+1,3,none⟩=false:=by simp[World.frozen?,((uh HBX).below (uh HI1).bel).rb]
     have t0:=(uh HI1).tn.c0
     have t1:=(uh HI1).tn.c1
     have t2:=(uh HI1).tn.c2
     have t3:=(uh HI1).tn.c3
     clear HI1 hsv hev
     go_wp2
     exact bodyPost_ret (v := .tuple #[.agg #[.int .i64 v0,.bool false,.int .i64 0,.slice ps 0 ks],.bool false]) (by simp[results,Tryz.results57,go_sem,r0,r1,r2,r3]) rfl (uh HFN)
    | some goes =>
     rw[hev] at HEC
     have HE1:=hde hev
     clear hev
     go_wp2_with fail
     refine(uh HEC).mono ?_
     rintro e w3 ⟨hb3,rfl⟩
     replace HI1:=hde ((uh HI1).below hb3)
     clear y0 y1 y2 y3 y4 y5 y6 y7 y8 kj HEC hb3
     go_wp2_with fail
     go_loopw [17] (fun k wr=>∃ (a:Nat) (l:List (Nat × Int)) (sv:Value) (q:Int),a≤Es.length∧k = .int .i64 a∧Hid (RInv W0 wr W0.heap.size T ((E.setV v0).setW q) v0 false 0 sv l)∧Hid (SoFar (P.code 2) (E.setV v0) (Sp.outE (Es.take a) i) goes l)∧Hid (goes=0→a=0)∧Hid (Sp.i64 q)) (fun k _=>Es.length - (intOf k).toNat)
     case atStart =>
      refine⟨0,[],_,(E.setV v0).weight,Nat.zero_le _,rfl,HI1,?_,fun _=>rfl,(uh HOK1).weight⟩
      by_cases hg:goes=0
      ·exact Or.inl ⟨hg,rfl⟩
      ·exact Or.inr ⟨hg,rfl⟩
     case round =>
      clear HI1
      obtain⟨a,l,sv,q,ha,rfl,HI2,HSF,HG0,HQ⟩:=hrel
      have kj2:wr.cell? ⟨w.heap.size,2,none⟩=some (.slice j.pe j.ne j.ke):=by simp[World.cell?,((uh HBX).below (uh HI2).bel).jb,jobA]
      have g0a:(0:Int)≤(a:Int):=Int.natCast_nonneg _
      by_cases hgo:goes≠0∧a < Es.length
      ·obtain⟨hg1,hlt⟩:=hgo
       have hltz:decide ((a:Int) < (j.ne:Int))=true:=decide_eq_true (by rw[uh HNE];omega)
       have hltz2:(a:Int) < (j.ne:Int):=by rw[uh HNE];omega
       have hgb:(goes != 0)=true:=by simp[hg1]
       have hbw:Below w.heap.size w wr:=hb0.trans ((uh HI2).bel.mono hb0.size)
       obtain⟨ge,hpe,hge,d0,d1,d2⟩:=((uh HJ).e.below hbw) a hlt
       rw[hpe] at kj2
       have hta:=outE_take (i:=i) hlt
       have hxn:Sp.i64 Es[a].n:=((uh HJ).ok.ed _ (List.getElem_mem hlt)).2.2
       obtain⟨x,hx⟩:∃ x,Es[a]=x:=⟨_,rfl⟩
       rw[hx] at d0 d1 d2 hta hxn
       have hms:Sp.msgs (P.code 2) (E.setV v0) (Sp.outE (Es.take a) i)=some l:=by
        rcases uh HSF with ⟨h1,_⟩ | ⟨_,h2⟩
        ·exact absurd h1 hg1
        ·exact h2
       clear hx hpe
       by_cases hf:x.frm=i
       ·have hfz:(((x.frm:Nat):Int) != (i:Int))=false:=by simp[hf]
        rw[if_pos hf] at hta
        have hS8:=(uh HI2).en.c8
        have hSf:=(uh HI2).en.fz 8
        have hSl:=(uh HI2).en.lt
        have hsnoc:=msgs_snoc hms x
        rw[← hta] at hsnoc
        have HXC:Hid (∀ W,W=(wr.setCell ⟨W0.heap.size,8,none⟩ (.int .i64 x.n)).alloc (.cells #[.int .i64 (x.frm:Int),.int .i64 (x.to:Int),.int .i64 x.n] 67)→RInv W0 W W0.heap.size T ((E.setV v0).setW x.n) v0 false 0 sv l∧W.heap[wr.heap.size]? = some (.cells #[.int .i64 (x.frm:Int),.int .i64 (x.to:Int),.int .i64 x.n] 67 (0,0))):=by
         show ∀ W,_
         rintro W rfl
         refine⟨((uh HI2).setW x.n).below ((Below.refl _ _).alloc nlr _),?_⟩
         have h:=heap_alloc_new (wr.setCell ⟨W0.heap.size,8,none⟩ (.int .i64 x.n)) (.cells #[.int .i64 (x.frm:Int),.int .i64 (x.to:Int),.int .i64 x.n] 67)
         have hz:(wr.setCell ⟨W0.heap.size,8,none⟩ (.int .i64 x.n)).heap.size=wr.heap.size:=by simp[World.setCell]
         rw[hz] at h
         exact h
        have hll:l.length≤256:=by rw[Sp.msgs_len hms];have:=Sp.outE_len (Es.take a) i;rw[List.length_take] at this;omega
        clear hf
        go_upto_region 23 with fail
        generalize hW3:World.alloc _ _=W3
        obtain⟨hI3,hX3⟩:=uh HXC W3 hW3.symm
        have HI3:=hde hI3
        have HX3:=hde hX3
        clear hW3 HXC hS8 hSf hI3 hX3 HI2 d0 d1 d2 kj2 hbw
        have y0:=(uh HI3).en.c0
        have y1:=(uh HI3).en.c1
        have y2:=(uh HI3).en.c2
        have y3:=(uh HI3).en.c3
        have y4:=(uh HI3).en.c4
        have y5:=(uh HI3).en.c5
        have y6:=(uh HI3).en.c6
        have y7:=(uh HI3).en.c7
        have y8:=(uh HI3).en.c8
        have kj:W3.cell? ⟨w.heap.size,5,none⟩=some (.slice j.p2 j.l2 j.k2):=by simp[World.cell?,((uh HBX).below (uh HI3).bel).jb,jobA]
        have HEC:Hid (Calls Tryz.prog 111 #[.slice j.p2 j.l2 j.k2,envV ((E.setV v0).setW x.n)] W3 (EPost (Sp.ev (P.code 2) ((E.setV v0).setW x.n)) W3)):=by
         have h:=(uh HJ).c2.eval (k:=j.k2) (hb0.trans ((uh HI3).bel.mono hb0.size)) ((uh HJ).ok.good 2 (by omega)) (E:=((E.setV v0).setW x.n)) ((uh HOK1).setW hxn)
         exact h
        cases hev:Sp.ev (P.code 2) ((E.setV v0).setW x.n) with
        | none =>
         rw[hev] at HEC hsnoc
         go_wp2_with fail
         refine(uh HEC).mono ?_
         rintro e w4 ⟨hb4,rfl⟩
         replace HI3:=hde ((uh HI3).below hb4)
         clear y0 y1 y2 y3 y4 y5 y6 y7 y8 kj HEC hb4 HX3
         obtain⟨ps,ks,hsv,_⟩:=osl (uh HI3).tn.row
         rw[hsv] at HI3
         have HFN:Hid (O (.returned (.tuple #[.agg #[.int .i64 v0,.bool false,.int .i64 0,.slice ps l.length ks],.bool false])) (set4 w4 (w.heap.size+1+1) v0 false 0 (.slice ps l.length ks))):=by
          have hz:Sp.turn P Es c i step=none:=by
           rw[uh HTE]
           unfold Sp.turnE
           rw[uh HE0]
           simp only
           rw[uh HE1]
           simp only
           rw[if_neg hg1,msgs_pre hsnoc]
          exact rfin_none (uh hO) hz hb0 (uh HI3)
         have r0:w4.cell? ⟨w.heap.size+1+1,0,none⟩=some (.int .i64 0):=by simp[World.cell?,((uh HBX).below (uh HI3).bel).rb]
         have rf0:w4.frozen? ⟨w.heap.size+1+1,0,none⟩=false:=by simp[World.frozen?,((uh HBX).below (uh HI3).bel).rb]
         have r1:w4.cell? ⟨w.heap.size+1+1,1,none⟩=some (.bool false):=by simp[World.cell?,((uh HBX).below (uh HI3).bel).rb]
         have rf1:w4.frozen? ⟨w.heap.size+1+1,1,none⟩=false:=by simp[World.frozen?,((uh HBX).below (uh HI3).bel).rb]
         have r2:w4.cell? ⟨w.heap.size+1+1,2,none⟩=some (.int .i64 0):=by simp[World.cell?,((uh HBX).below (uh HI3).bel).rb]
         have rf2:w4.frozen? ⟨w.heap.size+1+1,2,none⟩=false:=by simp[World.frozen?,((uh HBX).below (uh HI3).bel).rb]
         have r3:w4.cell? ⟨w.heap.size+1+1,3,none⟩=some (.slice none 0 0):=by simp[World.cell?,((uh HBX).below (uh HI3).bel).rb]
         have rf3:w4.frozen? ⟨w.heap.size+1+1,3,none⟩=false:=by simp[World.frozen?,((uh HBX).below (uh HI3).bel).rb]
         have t0:=(uh HI3).tn.c0
         have t1:=(uh HI3).tn.c1
         have t2:=(uh HI3).tn.c2
         have t3:=(uh HI3).tn.c3
         clear HI3 hsv hev
         go_wp2
         exact bodyPost_ret (v := .tuple #[.agg #[.int .i64 v0,.bool false,.int .i64 0,.slice ps l.length ks],.bool false]) (by simp[results,Tryz.results57,go_sem,r0,r1,r2,r3]) rfl (uh HFN)
        | some m =>
         rw[hev] at HEC hsnoc
         clear hev
         have HSF2:Hid (SoFar (P.code 2) (E.setV v0) (Sp.outE (Es.take (a+1)) i) goes (l++[(x.to,m)])):=Or.inr ⟨hg1,hsnoc⟩
         have HG1:Hid (goes=0→a+1=0):=fun h=>absurd h hg1
         have HQ1:Hid (Sp.i64 x.n):=hxn
         clear hsnoc hta hms HSF hg1
         go_wp2_with fail
         refine(uh HEC).mono ?_
         rintro e w4 ⟨hb4,rfl⟩
         replace HI3:=hde ((uh HI3).below hb4)
         have hxb:w4.heap[wr.heap.size]? = _:=(hb4.block _ (Array.getElem?_eq_some_iff.1 (uh HX3)).1).trans (uh HX3)
         have hx1:w4.cell? ⟨wr.heap.size,1,none⟩=some (.int .i64 (x.to:Int)):=by simp[World.cell?,hxb]
         have ht3:=(uh HI3).tn.c3
         have hf3:=(uh HI3).tn.fz 3
         have hrw:=(uh HI3).tn.row
         have hTl:=(uh HI3).tn.lt
         have hneT:some T≠sv.ownBlock:=fun e=>by have:=(hrw.lt T e.symm).1;omega
         clear y0 y1 y2 y3 y4 y5 y6 y7 y8 kj HEC hb4 HX3 hxb
         obtain⟨t2,ht2,hva,hvb,hvc⟩:=info_parts Tryz.info_sent
         go_wp2_with (first
          | (at_builtin;go_must (refine wpList_append_lies _ rfl (.tmp 135) (.tmp 140) 145 rfl (T+1) 152 t2 _ 2 16 Tryz.underlying145 ht2 hva hvb hvc rfl (by omega) sv _ _ rfl (hrw.alloc _) ⟨w4.heap.size,0,none⟩ 1 1 [.int .i64 (x.to:Int),.int .i64 m] rfl rfl (World.news_of_block (cs := #[.int .i64 (x.to:Int),.int .i64 m]) (t:=152) (fr:=(0,0)) (heap_alloc_new w4 _)) (by simp[Value.oneCell']) (by omega) (by unfold maxLen;omega) (by omega) (by simp;omega) (w4.heap.size+1) (by simp) ?_;intro gg2 cp2 w5 hown5 hgrow5 hat5 hlt5;have hq0:w5.cell? ⟨T,3,none⟩=some sv:=(hgrow5.cell_far ⟨T,3,none⟩ (by simp;omega) hneT).trans (((Below.refl w4.heap.size w4).alloc nlr _).cell (p:=⟨T,3,none⟩) hTl |>.trans ht3);have hq1:w5.frozen? ⟨T,3,none⟩=false:=(hgrow5.frozen_far ⟨T,3,none⟩ (by simp;omega) hneT).trans (((Below.refl w4.heap.size w4).alloc nlr _).frozen (p:=⟨T,3,none⟩) hTl |>.trans hf3)))
          | go_in)
         have HI4:=hde (RInv.app (m:=(x.to,m)) ((uh HI3).below ((Below.refl w4.heap.size w4).alloc nlr (.cells #[.int .i64 (x.to:Int),.int .i64 m] 152))) hgrow5 hown5)
         clear hown5 hgrow5 hat5 hlt5 hq0 hq1 hrw ht3 hf3 hx1
         go_roundw
         case rel=>exact⟨a+1,_,_,_,by omega,by go_num,HI4,HSF2,HG1,HQ1⟩
         case measure=>simp[intOf];omega
       ·have hfz:(((x.frm:Nat):Int) != (i:Int))=true:=by simp;omega
        rw[if_neg hf,List.append_nil] at hta
        have HSF2:Hid (SoFar (P.code 2) (E.setV v0) (Sp.outE (Es.take (a+1)) i) goes l):=by rw[hta];exact HSF
        have HI3:=hde ((uh HI2).below ((Below.refl wr.heap.size wr).alloc nlr (.cells #[.int .i64 (x.frm:Int),.int .i64 (x.to:Int),.int .i64 x.n] 67)))
        have HG1:Hid (goes=0→a+1=0):=fun h=>absurd h hg1
        clear hf hta hms HI2 HSF hbw
        go_wp2
        go_roundw
        case rel=>exact⟨a+1,l,sv,q,by omega,by go_num,HI3,HSF2,HG1,HQ⟩
        case measure=>simp[intOf];omega
      ·have HIF:Hid ((if goes=0 then some [] else Sp.msgs (P.code 2) (E.setV v0) (Sp.outE Es i))=some l):=by
        show _=_
        by_cases hg:goes=0
        ·rcases uh HSF with ⟨_,h2⟩ | ⟨h1,_⟩
         ·rw[if_pos hg,h2]
         ·exact absurd hg h1
        ·have hal:a=Es.length:=by
          by_cases h:a < Es.length
          ·exact absurd ⟨hg,h⟩ hgo
          ·omega
         have:=(uh HSF).done
         rw[hal,List.take_length] at this
         exact this
       have HGD:Hid (((a:Int) < (j.ne:Int)∧(goes != 0)=false)∨¬ (a:Int) < (j.ne:Int)):=by
        show _∨_
        by_cases h:a < Es.length
        ·refine Or.inl ⟨by rw[uh HNE];omega,?_⟩
         by_cases hg:goes=0
         ·simp[hg]
         ·exact absurd ⟨hg,h⟩ hgo
        ·exact Or.inr (by rw[uh HNE];omega)
       clear hgo HSF HG0
       rcases uh HGD with ⟨hd1,hd2⟩ | hd1
       all_goals
        go_upto_region 27 with fail
        clear kj2 HGD
        have y0:=(uh HI2).en.c0
        have y1:=(uh HI2).en.c1
        have y2:=(uh HI2).en.c2
        have y3:=(uh HI2).en.c3
        have y4:=(uh HI2).en.c4
        have y5:=(uh HI2).en.c5
        have y6:=(uh HI2).en.c6
        have y7:=(uh HI2).en.c7
        have y8:=(uh HI2).en.c8
        have kj:wr.cell? ⟨w.heap.size,6,none⟩=some (.slice j.p3 j.l3 j.k3):=by simp[World.cell?,((uh HBX).below (uh HI2).bel).jb,jobA]
        have HEC:Hid (Calls Tryz.prog 111 #[.slice j.p3 j.l3 j.k3,envV ((E.setV v0).setW q)] wr (EPost (Sp.ev (P.code 3) (E.setV v0)) wr)):=by
         have h:=(uh HJ).c3.eval (k:=j.k3) (hb0.trans ((uh HI2).bel.mono hb0.size)) ((uh HJ).ok.good 3 (by omega)) (E:=((E.setV v0).setW q)) ((uh HOK1).setW (uh HQ))
         rw[Sp.ev_weight ((uh HJ).ok.nw 3 (by omega) (by omega))] at h
         exact h
        cases hev:Sp.ev (P.code 3) (E.setV v0) with
        | none =>
         rw[hev] at HEC
         go_wp2_with fail
         refine(uh HEC).mono ?_
         rintro e w4 ⟨hb4,rfl⟩
         replace HI2:=hde ((uh HI2).below hb4)
         clear y0 y1 y2 y3 y4 y5 y6 y7 y8 kj HEC hb4
         obtain⟨ps,ks,hsv,_⟩:=osl (uh HI2).tn.row
         rw[hsv] at HI2
         have HFN:Hid (O (.returned (.tuple #[.agg #[.int .i64 v0,.bool false,.int .i64 0,.slice ps l.length ks],.bool false])) (set4 w4 (w.heap.size+1+1) v0 false 0 (.slice ps l.length ks))):=by
          have hz:Sp.turn P Es c i step=none:=by
           rw[uh HTE]
           unfold Sp.turnE
           rw[uh HE0]
           simp only
           rw[uh HE1]
           simp only
           rw[uh HIF]
           simp only
           unfold Sp.tail34
           rw[hev]
          exact rfin_none (uh hO) hz hb0 (uh HI2)
         have r0:w4.cell? ⟨w.heap.size+1+1,0,none⟩=some (.int .i64 0):=by simp[World.cell?,((uh HBX).below (uh HI2).bel).rb]
         have rf0:w4.frozen? ⟨w.heap.size+1+1,0,none⟩=false:=by simp[World.frozen?,((uh HBX).below (uh HI2).bel).rb]
         have r1:w4.cell? ⟨w.heap.size+1+1,1,none⟩=some (.bool false):=by simp[World.cell?,((uh HBX).below (uh HI2).bel).rb]
         have rf1:w4.frozen? ⟨w.heap.size+1+1,1,none⟩=false:=by simp[World.frozen?,((uh HBX).below (uh HI2).bel).rb]
         have r2:w4.cell? ⟨w.heap.size+1+1,2,none⟩=some (.int .i64 0):=by simp[World.cell?,((uh HBX).below (uh HI2).bel).rb]
         have rf2:w4.frozen? ⟨w.heap.size+1+1,2,none⟩=false:=by simp[World.frozen?,((uh HBX).below (uh HI2).bel).rb]
         have r3:w4.cell? ⟨w.heap.size+1+1,3,none⟩=some (.slice none 0 0):=by simp[World.cell?,((uh HBX).below (uh HI2).bel).rb]
         have rf3:w4.frozen? ⟨w.heap.size+1+1,3,none⟩=false:=by simp[World.frozen?,((uh HBX).below (uh HI2).bel).rb]
         have t0:=(uh HI2).tn.c0
         have t1:=(uh HI2).tn.c1
         have t2:=(uh HI2).tn.c2
         have t3:=(uh HI2).tn.c3
         clear HI2 hsv hev
         go_wp2
         exact bodyPost_ret (v := .tuple #[.agg #[.int .i64 v0,.bool false,.int .i64 0,.slice ps l.length ks],.bool false]) (by simp[results,Tryz.results57,go_sem,r0,r1,r2,r3]) rfl (uh HFN)
        | some hh =>
         rw[hev] at HEC
         have HE3:=hde hev
         clear hev
         go_wp2_with fail
         refine(uh HEC).mono ?_
         rintro e w4 ⟨hb4,rfl⟩
         replace HI2:=hde ((uh HI2).below hb4)
         clear y0 y1 y2 y3 y4 y5 y6 y7 y8 kj HEC hb4
         have t1:=(uh HI2).tn.c1
         have tf1:=(uh HI2).tn.fz 1
         obtain⟨rb,hrb⟩:∃ rb,(hh != 0)=rb:=⟨_,rfl⟩
         have HRB:=hde hrb
         replace HI2:=hde ((uh HI2).t1 rb)
         go_upto_region 31 with fail
         generalize World.setCell _ _ _=W5 at HI2 ⊢
         clear t1 tf1 hrb
         have y0:=(uh HI2).en.c0
         have y1:=(uh HI2).en.c1
         have y2:=(uh HI2).en.c2
         have y3:=(uh HI2).en.c3
         have y4:=(uh HI2).en.c4
         have y5:=(uh HI2).en.c5
         have y6:=(uh HI2).en.c6
         have y7:=(uh HI2).en.c7
         have y8:=(uh HI2).en.c8
         have kj:W5.cell? ⟨w.heap.size,7,none⟩=some (.slice j.p4 j.l4 j.k4):=by simp[World.cell?,((uh HBX).below (uh HI2).bel).jb,jobA]
         have HEC:Hid (Calls Tryz.prog 111 #[.slice j.p4 j.l4 j.k4,envV ((E.setV v0).setW q)] W5 (EPost (Sp.ev (P.code 4) (E.setV v0)) W5)):=by
          have h:=(uh HJ).c4.eval (k:=j.k4) (hb0.trans ((uh HI2).bel.mono hb0.size)) ((uh HJ).ok.good 4 (by omega)) (E:=((E.setV v0).setW q)) ((uh HOK1).setW (uh HQ))
          rw[Sp.ev_weight ((uh HJ).ok.nw 4 (by omega) (by omega))] at h
          exact h
         cases hev:Sp.ev (P.code 4) (E.setV v0) with
         | none =>
          rw[hev] at HEC
          go_wp2_with fail
          refine(uh HEC).mono ?_
          rintro e w6 ⟨hb6,rfl⟩
          replace HI2:=hde ((uh HI2).below hb6)
          clear y0 y1 y2 y3 y4 y5 y6 y7 y8 kj HEC hb6
          have u2:=(uh HI2).tn.c2
          have uf2:=(uh HI2).tn.fz 2
          replace HI2:=hde ((uh HI2).t2 0)
          go_upto_region 33 with fail
          generalize World.setCell _ _ _=W7 at HI2 ⊢
          clear u2 uf2
          obtain⟨ps,ks,hsv,_⟩:=osl (uh HI2).tn.row
          rw[hsv] at HI2
          have HFN:Hid (O (.returned (.tuple #[.agg #[.int .i64 v0,.bool rb,.int .i64 0,.slice ps l.length ks],.bool false])) (set4 W7 (w.heap.size+1+1) v0 rb 0 (.slice ps l.length ks))):=by
           have hz:Sp.turn P Es c i step=none:=by
            rw[uh HTE]
            unfold Sp.turnE
            rw[uh HE0]
            simp only
            rw[uh HE1]
            simp only
            rw[uh HIF]
            simp only
            unfold Sp.tail34
            rw[uh HE3]
            simp only
            rw[hev]
           exact rfin_none (uh hO) hz hb0 (uh HI2)
          have r0:W7.cell? ⟨w.heap.size+1+1,0,none⟩=some (.int .i64 0):=by simp[World.cell?,((uh HBX).below (uh HI2).bel).rb]
          have rf0:W7.frozen? ⟨w.heap.size+1+1,0,none⟩=false:=by simp[World.frozen?,((uh HBX).below (uh HI2).bel).rb]
          have r1:W7.cell? ⟨w.heap.size+1+1,1,none⟩=some (.bool false):=by simp[World.cell?,((uh HBX).below (uh HI2).bel).rb]
          have rf1:W7.frozen? ⟨w.heap.size+1+1,1,none⟩=false:=by simp[World.frozen?,((uh HBX).below (uh HI2).bel).rb]
          have r2:W7.cell? ⟨w.heap.size+1+1,2,none⟩=some (.int .i64 0):=by simp[World.cell?,((uh HBX).below (uh HI2).bel).rb]
          have rf2:W7.frozen? ⟨w.heap.size+1+1,2,none⟩=false:=by simp[World.frozen?,((uh HBX).below (uh HI2).bel).rb]
          have r3:W7.cell? ⟨w.heap.size+1+1,3,none⟩=some (.slice none 0 0):=by simp[World.cell?,((uh HBX).below (uh HI2).bel).rb]
          have rf3:W7.frozen? ⟨w.heap.size+1+1,3,none⟩=false:=by simp[World.frozen?,((uh HBX).below (uh HI2).bel).rb]
          have t0:=(uh HI2).tn.c0
          have t1:=(uh HI2).tn.c1
          have t2:=(uh HI2).tn.c2
          have t3:=(uh HI2).tn.c3
          clear HI2 hsv hev
          go_wp2
          exact bodyPost_ret (v := .tuple #[.agg #[.int .i64 v0,.bool rb,.int .i64 0,.slice ps l.length ks],.bool false]) (by simp[results,Tryz.results57,go_sem,r0,r1,r2,r3]) rfl (uh HFN)
         | some gv2 =>
          rw[hev] at HEC
          have HE4:=hde hev
          clear hev
          go_wp2_with fail
          refine(uh HEC).mono ?_
          rintro e w6 ⟨hb6,rfl⟩
          replace HI2:=hde ((uh HI2).below hb6)
          clear y0 y1 y2 y3 y4 y5 y6 y7 y8 kj HEC hb6
          have u2:=(uh HI2).tn.c2
          have uf2:=(uh HI2).tn.fz 2
          replace HI2:=hde ((uh HI2).t2 gv2)
          go_upto_region 33 with fail
          generalize World.setCell _ _ _=W7 at HI2 ⊢
          clear u2 uf2
          obtain⟨ps,ks,hsv,_⟩:=osl (uh HI2).tn.row
          rw[hsv] at HI2
          have HFN:Hid (O (.returned (.tuple #[.agg #[.int .i64 v0,.bool rb,.int .i64 gv2,.slice ps l.length ks],.bool true])) (set4 W7 (w.heap.size+1+1) v0 rb gv2 (.slice ps l.length ks))):=by
           have hz:Sp.turn P Es c i step=some ⟨v0,rb,gv2,l⟩:=by
            rw[uh HTE]
            unfold Sp.turnE
            rw[uh HE0]
            simp only
            rw[uh HE1]
            simp only
            rw[uh HIF]
            simp only
            unfold Sp.tail34
            rw[uh HE3]
            simp only
            rw[uh HE4,uh HRB]
           have h:=rfin_some (t:=⟨v0,rb,gv2,l⟩) (uh hO) hz hb0 (uh HZ0) (uh HI2)
           exact h
          have r0:W7.cell? ⟨w.heap.size+1+1,0,none⟩=some (.int .i64 0):=by simp[World.cell?,((uh HBX).below (uh HI2).bel).rb]
          have rf0:W7.frozen? ⟨w.heap.size+1+1,0,none⟩=false:=by simp[World.frozen?,((uh HBX).below (uh HI2).bel).rb]
          have r1:W7.cell? ⟨w.heap.size+1+1,1,none⟩=some (.bool false):=by simp[World.cell?,((uh HBX).below (uh HI2).bel).rb]
          have rf1:W7.frozen? ⟨w.heap.size+1+1,1,none⟩=false:=by simp[World.frozen?,((uh HBX).below (uh HI2).bel).rb]
          have r2:W7.cell? ⟨w.heap.size+1+1,2,none⟩=some (.int .i64 0):=by simp[World.cell?,((uh HBX).below (uh HI2).bel).rb]
          have rf2:W7.frozen? ⟨w.heap.size+1+1,2,none⟩=false:=by simp[World.frozen?,((uh HBX).below (uh HI2).bel).rb]
          have r3:W7.cell? ⟨w.heap.size+1+1,3,none⟩=some (.slice none 0 0):=by simp[World.cell?,((uh HBX).below (uh HI2).bel).rb]
          have rf3:W7.frozen? ⟨w.heap.size+1+1,3,none⟩=false:=by simp[World.frozen?,((uh HBX).below (uh HI2).bel).rb]
          have t0:=(uh HI2).tn.c0
          have t1:=(uh HI2).tn.c1
          have t2:=(uh HI2).tn.c2
          have t3:=(uh HI2).tn.c3
          clear HI2 hsv
          go_wp2
          exact bodyPost_ret (v := .tuple #[.agg #[.int .i64 v0,.bool rb,.int .i64 gv2,.slice ps l.length ks],.bool true]) (by simp[results,Tryz.results57,go_sem,r0,r1,r2,r3]) rfl (uh HFN)
end Go.Proofs.YteflnddphpjahaaGreatDoor
