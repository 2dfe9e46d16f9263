import Derived.Test.YteflnddphpjahaaGreatDoorCmEvEtoMkA
import Derived.Test.YteflnddphpjahaaGreatDoorCmRsCtoRnQ
import Derived.Deep.RegionHeld3
set_option linter.unusedVariables false
set_option linter.unusedSimpArgs false
set_option maxRecDepth 100000
set_option maxHeartbeats 16000000
namespace Go.Proofs.YteflnddphpjahaaGreatDoor
open Go.RowKit
theorem Tryz.info_sent:(Tryz.prog.info? 152).map (fun i=>(i.zero,i.size,i.bytes))=some (some (.agg #[.int .i64 0,.int .i64 0]),2,16):=by kernel_rfl
def sentCells (l:List (Nat × Int)):List Value:=l.flatMap fun m=>[Value.int .i64 (m.1:Int),.int .i64 m.2]
theorem sent_snoc (l:List (Nat × Int)) (m:Nat × Int):sentCells (l++[m])=sentCells l++[.int .i64 (m.1:Int),.int .i64 m.2]:=by simp[sentCells]
structure EnvAt (w:World) (S:Nat) (E:Sp.Ev):Prop where
 c0:w.cell? ⟨S,0,none⟩=some (.int .i64 E.value)
 c1:w.cell? ⟨S,1,none⟩=some (.int .i64 E.old)
 c2:w.cell? ⟨S,2,none⟩=some (.int .i64 E.inn)
 c3:w.cell? ⟨S,3,none⟩=some (.int .i64 E.got)
 c4:w.cell? ⟨S,4,none⟩=some (.int .i64 E.step)
 c5:w.cell? ⟨S,5,none⟩=some (.int .i64 E.id)
 c6:w.cell? ⟨S,6,none⟩=some (.int .i64 E.deg)
 c7:w.cell? ⟨S,7,none⟩=some (.int .i64 E.all)
 c8:w.cell? ⟨S,8,none⟩=some (.int .i64 E.weight)
 fz:∀ j,w.frozen? ⟨S,j,none⟩=false
def envA (E:Sp.Ev):Array Value := #[.int .i64 E.value,.int .i64 E.old,.int .i64 E.inn,.int .i64 E.got,.int .i64 E.step,.int .i64 E.id,.int .i64 E.deg,.int .i64 E.all,.int .i64 E.weight]
theorem EnvAt.lt {w:World} {S:Nat} {E:Sp.Ev} (h:EnvAt w S E):S < w.heap.size:=World.block_lt_of_cell? w _ h.c0
theorem EnvAt.far {w w':World} {S:Nat} {E:Sp.Ev} (h:EnvAt w S E) (hc:∀ j,w'.cell? ⟨S,j,none⟩=w.cell? ⟨S,j,none⟩) (hf:∀ j,w'.frozen? ⟨S,j,none⟩=w.frozen? ⟨S,j,none⟩):EnvAt w' S E :=
 ⟨(hc _).trans h.c0,(hc _).trans h.c1,(hc _).trans h.c2,(hc _).trans h.c3,(hc _).trans h.c4,(hc _).trans h.c5,(hc _).trans h.c6,(hc _).trans h.c7,(hc _).trans h.c8,fun j=>(hf j).trans (h.fz j)⟩
theorem EnvAt.below {w w':World} {S:Nat} {E:Sp.Ev} (h:EnvAt w S E) (hb:Below w.heap.size w w'):EnvAt w' S E :=
 h.far (fun j=>hb.cell (p:=⟨S,j,none⟩) h.lt) (fun j=>hb.frozen (p:=⟨S,j,none⟩) h.lt)
theorem EnvAt.new {w:World} {S t:Nat} {E:Sp.Ev} (h:w.heap[S]? = some (.cells (envA E) t)):EnvAt w S E :=
 ⟨by simp[World.cell?,h,envA],by simp[World.cell?,h,envA],by simp[World.cell?,h,envA],by simp[World.cell?,h,envA],by simp[World.cell?,h,envA],by simp[World.cell?,h,envA],by simp[World.cell?,h,envA],by simp[World.cell?,h,envA],by simp[World.cell?,h,envA],fun j=>by simp[World.frozen?,h]⟩
theorem EnvAt.setV {w:World} {S:Nat} {E:Sp.Ev} (h:EnvAt w S E) (v:Int):EnvAt (w.setCell ⟨S,0,none⟩ (.int .i64 v)) S (E.setV v):=by
 have ho:∀ j,j≠0→(w.setCell ⟨S,0,none⟩ (.int .i64 v)).cell? ⟨S,j,none⟩=w.cell? ⟨S,j,none⟩:=fun j hj=>cso (by omega)
 exact⟨World.cell?_setCell_same _ _ _ h.c0,(ho _ (by omega)).trans h.c1,(ho _ (by omega)).trans h.c2,(ho _ (by omega)).trans h.c3,(ho _ (by omega)).trans h.c4,(ho _ (by omega)).trans h.c5,(ho _ (by omega)).trans h.c6,(ho _ (by omega)).trans h.c7,(ho _ (by omega)).trans h.c8,fun j=>(World.frozen?_setCell _ _ _ _).trans (h.fz j)⟩
theorem EnvAt.setW {w:World} {S:Nat} {E:Sp.Ev} (h:EnvAt w S E) (v:Int):EnvAt (w.setCell ⟨S,8,none⟩ (.int .i64 v)) S (E.setW v):=by
 have ho:∀ j,j≠8→(w.setCell ⟨S,8,none⟩ (.int .i64 v)).cell? ⟨S,j,none⟩=w.cell? ⟨S,j,none⟩:=fun j hj=>cso (by omega)
 exact⟨(ho _ (by omega)).trans h.c0,(ho _ (by omega)).trans h.c1,(ho _ (by omega)).trans h.c2,(ho _ (by omega)).trans h.c3,(ho _ (by omega)).trans h.c4,(ho _ (by omega)).trans h.c5,(ho _ (by omega)).trans h.c6,(ho _ (by omega)).trans h.c7,World.cell?_setCell_same _ _ _ h.c8,fun j=>(World.frozen?_setCell _ _ _ _).trans (h.fz j)⟩
theorem cellb_other {W:World} {a b i j:Nat} {v:Value} (h:a≠b):(W.setCell ⟨a,i,none⟩ v).cell? ⟨b,j,none⟩=W.cell? ⟨b,j,none⟩:=
 World.cell?_setCell_other W ⟨a,i,none⟩ ⟨b,j,none⟩ v (by intro e;injection e with e _;exact h e)
theorem EnvAt.other {W:World} {S a i:Nat} {v:Value} {E:Sp.Ev} (h:EnvAt W S E) (hn:a≠S):EnvAt (W.setCell ⟨a,i,none⟩ v) S E :=
 h.far (fun j=>cellb_other hn) (fun j=>World.frozen?_setCell _ _ _ _)
structure RTurn (w:World) (T:Nat) (a:Int) (b:Bool) (c:Int) (sv:Value) (l:List (Nat × Int)):Prop where
 c0:w.cell? ⟨T,0,none⟩=some (.int .i64 a)
 c1:w.cell? ⟨T,1,none⟩=some (.bool b)
 c2:w.cell? ⟨T,2,none⟩=some (.int .i64 c)
 c3:w.cell? ⟨T,3,none⟩=some sv
 fz:∀ j,w.frozen? ⟨T,j,none⟩=false
 row:w.ownsRow (T+1) 152 2 sv l.length (sentCells l)
theorem RTurn.lt {w:World} {T:Nat} {a c:Int} {b:Bool} {sv:Value} {l:List (Nat × Int)} (h:RTurn w T a b c sv l):T < w.heap.size:=World.block_lt_of_cell? w _ h.c0
theorem RTurn.new {w:World} {T t:Nat} (h:w.heap[T]? = some (.cells #[.int .i64 0,.bool false,.int .i64 0,.slice none 0 0] t)):RTurn w T 0 false 0 (.slice none 0 0) []:=
 ⟨by simp[World.cell?,h],by simp[World.cell?,h],by simp[World.cell?,h],by simp[World.cell?,h],fun j=>by simp[World.frozen?,h],World.ownsRow_nil _ _ _ _⟩
theorem RTurn.below {w w':World} {T:Nat} {a c:Int} {b:Bool} {sv:Value} {l:List (Nat × Int)} (h:RTurn w T a b c sv l) (hb:Below w.heap.size w w'):RTurn w' T a b c sv l :=
 ⟨(hb.cell (p:=⟨T,0,none⟩) h.lt).trans h.c0,(hb.cell (p:=⟨T,1,none⟩) h.lt).trans h.c1,(hb.cell (p:=⟨T,2,none⟩) h.lt).trans h.c2,(hb.cell (p:=⟨T,3,none⟩) h.lt).trans h.c3,fun j=>(hb.frozen (p:=⟨T,j,none⟩) h.lt).trans (h.fz j),obl h.row hb⟩
theorem RTurn.other {w:World} {T q i:Nat} {v:Value} {a c:Int} {b:Bool} {sv:Value} {l:List (Nat × Int)} (h:RTurn w T a b c sv l) (hq:q < T):RTurn (w.setCell ⟨q,i,none⟩ v) T a b c sv l :=
 ⟨(cellb_other (by omega)).trans h.c0,(cellb_other (by omega)).trans h.c1,(cellb_other (by omega)).trans h.c2,(cellb_other (by omega)).trans h.c3,fun j=>(World.frozen?_setCell _ _ _ _).trans (h.fz j),ownsRow_setCell_below h.row (a:=⟨q,i,none⟩) (by show q < T+1;omega) v⟩
theorem RTurn.s0 {w:World} {T:Nat} {a c:Int} {b:Bool} {sv:Value} {l:List (Nat × Int)} (h:RTurn w T a b c sv l) (x:Int):RTurn (w.setCell ⟨T,0,none⟩ (.int .i64 x)) T x b c sv l :=
 ⟨World.cell?_setCell_same _ _ _ h.c0,(cso (by omega)).trans h.c1,(cso (by omega)).trans h.c2,(cso (by omega)).trans h.c3,fun j=>(World.frozen?_setCell _ _ _ _).trans (h.fz j),((Only.refl T w).set _ _).own h.row⟩
theorem RTurn.s1 {w:World} {T:Nat} {a c:Int} {b:Bool} {sv:Value} {l:List (Nat × Int)} (h:RTurn w T a b c sv l) (x:Bool):RTurn (w.setCell ⟨T,1,none⟩ (.bool x)) T a x c sv l :=
 ⟨(cso (by omega)).trans h.c0,World.cell?_setCell_same _ _ _ h.c1,(cso (by omega)).trans h.c2,(cso (by omega)).trans h.c3,fun j=>(World.frozen?_setCell _ _ _ _).trans (h.fz j),((Only.refl T w).set _ _).own h.row⟩
theorem RTurn.s2 {w:World} {T:Nat} {a c:Int} {b:Bool} {sv:Value} {l:List (Nat × Int)} (h:RTurn w T a b c sv l) (x:Int):RTurn (w.setCell ⟨T,2,none⟩ (.int .i64 x)) T a b x sv l :=
 ⟨(cso (by omega)).trans h.c0,(cso (by omega)).trans h.c1,World.cell?_setCell_same _ _ _ h.c2,(cso (by omega)).trans h.c3,fun j=>(World.frozen?_setCell _ _ _ _).trans (h.fz j),((Only.refl T w).set _ _).own h.row⟩
structure RBox (W:World) (J:Nat) (j:JV) (n:Nat) (v:CV) (all:Int):Prop where
 jb:W.heap[J]? = some (.cells (jobA j) 109 (0,0))
 cb:W.heap[J+1]? = some (.cells (cfgA n v all) 114 (0,0))
 rb:W.heap[J+1+1]? = some (.cells #[.int .i64 0,.bool false,.int .i64 0,.slice none 0 0] 147 (0,0))
theorem RBox.below {W W':World} {J:Nat} {j:JV} {n:Nat} {v:CV} {all:Int} (h:RBox W J j n v all) (hb:Below W.heap.size W W'):RBox W' J j n v all :=
 ⟨(hb.block _ (Array.getElem?_eq_some_iff.1 h.jb).1).trans h.jb,(hb.block _ (Array.getElem?_eq_some_iff.1 h.cb).1).trans h.cb,(hb.block _ (Array.getElem?_eq_some_iff.1 h.rb).1).trans h.rb⟩
def noPanR (Q:Exit→Act→World→Prop):Exit→Act→World→Prop
 | .panic _,_,_=>False
 | .normal,a,w=>Q .normal a w
 | .ret,a,w=>Q .ret a w
 | .exit n,a,w=>Q (.exit n) a w
 | .goto n,a,w=>Q (.goto n) a w
 | .outgrown,a,w=>Q .outgrown a w
theorem noPanR_mono {Q:Exit→Act→World→Prop}:∀ e a w,noPanR Q e a w→Q e a w:=fun e a w h=>by
 cases e <;> first | exact h | exact h.elim
theorem wp_joinR {P:Program} {c:Code} {Q:Exit→Act→World→Prop} {a:Act} {w:World} (R:World→Prop) (h:∃ A,c.wp P (noPanR fun x a' w'=>x = .normal∧a'=A∧R w') a w∧∀ w',R w'→Q .normal A w'):c.wp P Q a w:=by
 obtain⟨A,h1,h2⟩:=h
 refine Code.wp_mono (fun e a w h=>?_) h1
 obtain⟨rfl,rfl,hr⟩:=noPanR_mono _ _ _ h
 exact h2 _ hr
structure RInv (W0 W:World) (S T:Nat) (E:Sp.Ev) (a:Int) (b:Bool) (c:Int) (sv:Value) (l:List (Nat × Int)):Prop where
 en:EnvAt W S E
 tn:RTurn W T a b c sv l
 bel:Below W0.heap.size W0 W
 st:S < T
 s0:W0.heap.size≤S
theorem RInv.below {W0 W W':World} {S T:Nat} {E:Sp.Ev} {a c:Int} {b:Bool} {sv:Value} {l:List (Nat × Int)} (h:RInv W0 W S T E a b c sv l) (hb:Below W.heap.size W W'):RInv W0 W' S T E a b c sv l :=
 ⟨h.en.below hb,h.tn.below hb,h.bel.trans (hb.mono h.bel.size),h.st,h.s0⟩
theorem RInv.setV {W0 W:World} {S T:Nat} {E:Sp.Ev} {a c:Int} {b:Bool} {sv:Value} {l:List (Nat × Int)} (h:RInv W0 W S T E a b c sv l) (x:Int):RInv W0 (W.setCell ⟨S,0,none⟩ (.int .i64 x)) S T (E.setV x) a b c sv l :=
 ⟨h.en.setV x,h.tn.other h.st,h.bel.setCell (p:=⟨S,0,none⟩) h.s0 _,h.st,h.s0⟩
theorem RInv.setW {W0 W:World} {S T:Nat} {E:Sp.Ev} {a c:Int} {b:Bool} {sv:Value} {l:List (Nat × Int)} (h:RInv W0 W S T E a b c sv l) (x:Int):RInv W0 (W.setCell ⟨S,8,none⟩ (.int .i64 x)) S T (E.setW x) a b c sv l :=
 ⟨h.en.setW x,h.tn.other h.st,h.bel.setCell (p:=⟨S,8,none⟩) h.s0 _,h.st,h.s0⟩
theorem RInv.t0 {W0 W:World} {S T:Nat} {E:Sp.Ev} {a c:Int} {b:Bool} {sv:Value} {l:List (Nat × Int)} (h:RInv W0 W S T E a b c sv l) (x:Int):RInv W0 (W.setCell ⟨T,0,none⟩ (.int .i64 x)) S T E x b c sv l :=
 ⟨h.en.other (by have:=h.st;omega),h.tn.s0 x,h.bel.setCell (p:=⟨T,0,none⟩) (by have:=h.st;have:=h.s0;show W0.heap.size≤T;omega) _,h.st,h.s0⟩
theorem RInv.t1 {W0 W:World} {S T:Nat} {E:Sp.Ev} {a c:Int} {b:Bool} {sv:Value} {l:List (Nat × Int)} (h:RInv W0 W S T E a b c sv l) (x:Bool):RInv W0 (W.setCell ⟨T,1,none⟩ (.bool x)) S T E a x c sv l :=
 ⟨h.en.other (by have:=h.st;omega),h.tn.s1 x,h.bel.setCell (p:=⟨T,1,none⟩) (by have:=h.st;have:=h.s0;show W0.heap.size≤T;omega) _,h.st,h.s0⟩
theorem RInv.t2 {W0 W:World} {S T:Nat} {E:Sp.Ev} {a c:Int} {b:Bool} {sv:Value} {l:List (Nat × Int)} (h:RInv W0 W S T E a b c sv l) (x:Int):RInv W0 (W.setCell ⟨T,2,none⟩ (.int .i64 x)) S T E a b x sv l :=
 ⟨h.en.other (by have:=h.st;omega),h.tn.s2 x,h.bel.setCell (p:=⟨T,2,none⟩) (by have:=h.st;have:=h.s0;show W0.heap.size≤T;omega) _,h.st,h.s0⟩
theorem RInv.app {W0 W W1:World} {S T:Nat} {E:Sp.Ev} {a c:Int} {b:Bool} {sv sv':Value} {l:List (Nat × Int)} {m:Nat × Int} (h:RInv W0 W S T E a b c sv l) (hg:W.grownBy W1 sv.ownBlock) (hr:W1.ownsRow (T+1) 152 2 sv' (l.length+1) (sentCells l++[.int .i64 (m.1:Int),.int .i64 m.2])):RInv W0 (W1.setCell ⟨T,3,none⟩ sv') S T E a b c sv' (l++[m]):=by
 have hlT:=h.tn.lt
 have hneT:some T≠sv.ownBlock:=fun e=>by have:=(h.tn.row.lt T e.symm).1;omega
 have hneS:some S≠sv.ownBlock:=fun e=>by have:=(h.tn.row.lt S e.symm).1;have:=h.st;omega
 have hc:∀ j,W1.cell? ⟨T,j,none⟩=W.cell? ⟨T,j,none⟩:=fun j=>hg.cell_far ⟨T,j,none⟩ hlT hneT
 refine⟨(h.en.far (fun j=>hg.cell_far ⟨S,j,none⟩ h.en.lt hneS) (fun j=>hg.frozen_far ⟨S,j,none⟩ h.en.lt hneS)).other (by have:=h.st;omega),⟨(cso (by omega)).trans ((hc 0).trans h.tn.c0),(cso (by omega)).trans ((hc 1).trans h.tn.c1),(cso (by omega)).trans ((hc 2).trans h.tn.c2),World.cell?_setCell_same _ _ _ ((hc 3).trans h.tn.c3),fun j=>(World.frozen?_setCell _ _ _ _).trans ((hg.frozen_far ⟨T,j,none⟩ hlT hneT).trans (h.tn.fz j)),?_⟩,?_,h.st,h.s0⟩
 ·rw[List.length_append,sent_snoc];exact((Only.refl T W1).set _ _).own hr
 ·exact(h.bel.grown hg h.bel.size (fun k hk=>by have:=(h.tn.row.lt k hk).1;have:=h.st;have:=h.s0;omega)).setCell (p:=⟨T,3,none⟩) (by have:=h.st;have:=h.s0;show W0.heap.size≤T;omega) _
def SoFar (L:List (List UInt8)) (E:Sp.Ev) (es:List Sp.Ed) (goes:Int) (l:List (Nat × Int)):Prop:=(goes=0∧l=[])∨(goes≠0∧Sp.msgs L E es=some l)
theorem SoFar.done {L:List (List UInt8)} {E:Sp.Ev} {es:List Sp.Ed} {goes:Int} {l:List (Nat × Int)} (h:SoFar L E es goes l):(if goes=0 then some [] else Sp.msgs L E es)=some l:=by
 rcases h with ⟨h1,rfl⟩ | ⟨h1,h2⟩
 ·rw[if_pos h1]
 ·rw[if_neg h1,h2]
theorem EnvAt.cells {W:World} {S:Nat} {E:Sp.Ev} (h:EnvAt W S E):EnvAt W S E:=h
end Go.Proofs.YteflnddphpjahaaGreatDoor
