import Derived.Test.YteflnddphpjahaaDoorClPrB
/-
  stride.Parse: as the document says.
-/
set_option linter.unusedVariables false
set_option linter.unusedSimpArgs false
set_option maxRecDepth 100000
namespace Go.Proofs.YteflnddphpjahaaDoor
open Go.RowKit

set_option maxHeartbeats 2000000 in
theorem sparse_any (s : ByteArray) (w : World) (hT : Lib.Utf8Tabs 2 3 w) (hS : SplitOk w) : Calls Tryd.prog 13 #[.string s] w (PPost s w) := by
  have R0 := Res.new w
  cases hp : Sp.parseSpec s with
  | error ab =>
    obtain ⟨a, b⟩ := ab
    have HP := hide hp
    clear hp
    go_enter Tryd.func13, Tryd.ntmps13
    go_wp2_with fail
    refine (gparse_any s _ (tabs_below hT R0.1) (split_ok_below hS R0.1)).mono ?_
    rintro e w1 ⟨⟨hb1, hm1⟩, hsm⟩
    rw [unhide HP] at hm1
    obtain rfl := hm1
    have RZ := R0.next hb1
    obtain ⟨n0, n1, n2, nf⟩ := blk3_cell RZ.2.2
    have nf0 := nf 0
    have nf1 := nf 1
    have nf2 := nf 2
    have hzs := RZ.2.1
    have hzb := RZ.1
    clear hb1
    unfold graphVal
    go_wp2
    refine bodyPost_ret (v := .tuple #[nilG, .int .i64 a, .int .i64 b]) (by simp [results, Tryd.results13, go_sem, graphVal, n0, n1, n2]) rfl ⟨parse_err (unhide HP) ?_, hsm⟩
    exact ((hzb.setCell (Nat.le_refl _) _).setCell (Nat.le_refl _) _).setCell (Nat.le_refl _) _
  | ok L =>
    have HP := hide hp
    clear hp
    go_enter Tryd.func13, Tryd.ntmps13
    go_wp2_with fail
    refine (gparse_any s _ (tabs_below hT R0.1) (split_ok_below hS R0.1)).mono ?_
    rintro e w1 ⟨⟨hb1, hm1⟩, hsm⟩
    rw [unhide HP] at hm1
    obtain ⟨v, u, x, rfl, r0, r1, r2⟩ := hm1
    have RZ := R0.next hb1
    obtain ⟨pv, kv, rfl, _⟩ := own_slice r0
    obtain ⟨pu, ku, rfl, _⟩ := own_slice r1
    obtain ⟨px, kx, rfl, _⟩ := own_slice r2
    obtain ⟨n0, n1, n2, nf⟩ := blk3_cell RZ.2.2
    have nf0 := nf 0
    have nf1 := nf 1
    have nf2 := nf 2
    have hzs := RZ.2.1
    have hzb := RZ.1
    clear hb1
    rw [World.size_alloc] at r0 r1 r2
    unfold graphVal
    go_wp2
    have hlt : w.heap.size < w.heap.size + 1 := Nat.lt_succ_self _
    refine bodyPost_ret (v := .tuple #[graphVal (.slice pv (Sp.vs L (Sp.nv L)).length kv) (.slice pu (Sp.vs L (Sp.nv L)).length ku) (.slice px (Sp.es L (Sp.nv L) (Sp.nv L)).length kx), .int .i64 0, .int .i64 0]) (by simp [results, Tryd.results13, go_sem, graphVal, n0, n1, n2]) rfl ?_
    refine ⟨?_, hsm⟩
    refine ⟨((hzb.setCell (Nat.le_refl _) _).setCell (Nat.le_refl _) _).setCell (Nat.le_refl _) _, ?_⟩
    rw [unhide HP]
    exact ⟨_, _, _, rfl, own_base (ownsRow_setCell_below (ownsRow_setCell_below (ownsRow_setCell_below r0 (a := ⟨w.heap.size, 0, none⟩) hlt _) (a := ⟨w.heap.size, 1, none⟩) hlt _) (a := ⟨w.heap.size, 2, none⟩) hlt _) (Nat.le_succ _),
      own_base (ownsRow_setCell_below (ownsRow_setCell_below (ownsRow_setCell_below r1 (a := ⟨w.heap.size, 0, none⟩) hlt _) (a := ⟨w.heap.size, 1, none⟩) hlt _) (a := ⟨w.heap.size, 2, none⟩) hlt _) (Nat.le_succ _),
      own_base (ownsRow_setCell_below (ownsRow_setCell_below (ownsRow_setCell_below r2 (a := ⟨w.heap.size, 0, none⟩) hlt _) (a := ⟨w.heap.size, 1, none⟩) hlt _) (a := ⟨w.heap.size, 2, none⟩) hlt _) (Nat.le_succ _)⟩
end Go.Proofs.YteflnddphpjahaaDoor
