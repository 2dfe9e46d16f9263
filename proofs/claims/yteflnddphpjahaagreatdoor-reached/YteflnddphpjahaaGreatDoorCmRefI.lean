import Derived.Test.YteflnddphpjahaaGreatDoorProg
import Derived.Test.YteflnddphpjahaaGreatDoorCmRefBtoGMem
import Derived.WalkKit
import Derived.Outline
import Derived.Deep.DeepMust
import Derived.Deep.RegionHeld3
import Derived.Deep.RegionLaw
import Derived.Deep.DrawnRows
import Derived.Deep.AppendLies
set_option linter.unusedVariables false
set_option linter.unusedSimpArgs false
set_option maxRecDepth 100000
set_option maxHeartbeats 16000000
namespace Go.Proofs.YteflnddphpjahaaGreatDoor
open Go.RowKit
attribute [local go_sem ↓] Go.wp_at_zero Go.wp_at_succ
def graphVal (v u x:Value):Value := .agg #[v,u,x]
def ParsePost (s:ByteArray) (w:World) (e:Ending) (w':World):Prop :=
 Below w.heap.size w w' ∧
 match Sp.parseSpec s with
 | .error (a,b)=>e = .returned (.tuple #[graphVal (.slice none 0 0) (.slice none 0 0) (.slice none 0 0),.int .i64 a,.int .i64 b])
 | .ok L=>∃ v u x,e = .returned (.tuple #[graphVal v u x,.int .i64 0,.int .i64 0]) ∧
   w'.ownsRow w.heap.size 21 1 v (Sp.vs L (Sp.nv L)).length (((Sp.vs L (Sp.nv L)).map (·.frm)).map (Value.int .i32)) ∧
   w'.ownsRow w.heap.size 2 1 u (Sp.vs L (Sp.nv L)).length (((Sp.vs L (Sp.nv L)).map (·.n)).map (Value.int .i64)) ∧
   w'.ownsRow w.heap.size 67 3 x (Sp.es L (Sp.nv L) (Sp.nv L)).length (edCells (Sp.es L (Sp.nv L) (Sp.nv L)))
theorem Tryz.info_i32:(Tryz.prog.info? 21).map (fun i=>(i.zero,i.size,i.bytes))=some (some (.int .i32 0),1,4):=by kernel_rfl
theorem Tryz.info_i64:(Tryz.prog.info? 2).map (fun i=>(i.zero,i.size,i.bytes))=some (some (.int .i64 0),1,8):=by kernel_rfl
theorem Tryz.info_edge:(Tryz.prog.info? 67).map (fun i=>(i.zero,i.size,i.bytes))=some (some (.agg #[.int .i64 0,.int .i64 0,.int .i64 0]),3,24):=by kernel_rfl
theorem far_cell {w:World} {o:Obj} {g j:Nat} {x:Value} (hg:g < w.heap.size) (h:w.cell? ⟨g,j,none⟩=some x):(w.alloc o).cell? ⟨g,j,none⟩=some x:=by
 rw[World.cell?_alloc_past _ _ _ (by simpa using hg)];exact h
theorem parse_err {s:ByteArray} {w w':World} {a b:Int} (h:Sp.parseSpec s = .error (a,b)) (hb:Below w.heap.size w w') :
  ParsePost s w (.returned (.tuple #[graphVal (.slice none 0 0) (.slice none 0 0) (.slice none 0 0),.int .i64 a,.int .i64 b])) w':=by
 refine⟨hb,?_⟩;rw[h]
theorem parse_okl {s:ByteArray} {w w':World} {L:List Sp.Ln} {k:Nat} {N V:List Int} {v u x:Value} (h:Sp.parseSpec s = .ok L) (hk:k=Sp.nv L) (hb:Below w.heap.size w w') (hN:(Sp.vs L k).map (·.frm)=N) (hV:(Sp.vs L k).map (·.n)=V)
  (r0:w'.ownsRow w.heap.size 21 1 v N.length (N.map (Value.int .i32))) (r1:w'.ownsRow w.heap.size 2 1 u V.length (V.map (Value.int .i64))) (r2:w'.ownsRow w.heap.size 67 3 x (Sp.es L k k).length (edCells (Sp.es L k k))) :
  ParsePost s w (.returned (.tuple #[graphVal v u x,.int .i64 0,.int .i64 0])) w':=by
 subst hk hN hV
 refine⟨hb,?_⟩
 rw[h]
 exact⟨v,u,x,rfl,by simpa using r0,by simpa using r1,r2⟩
end Go.Proofs.YteflnddphpjahaaGreatDoor
