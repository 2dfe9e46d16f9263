import Derived.Test.YteflnddphpjahaaClDkF
/-
  A disk: List.
-/
set_option linter.unusedVariables false
set_option linter.unusedSimpArgs false
set_option maxRecDepth 100000
namespace Go.Proofs.Yteflnddphpjahaa.Dk
open Go.RowKit Go.Shelf
attribute [local go_sem] Oper.semAt_some

theorem Try.info_str : (Try.prog.info? 9).map (fun i => (i.zero, i.size, i.bytes)) = some (some (.string ⟨#[]⟩), 1, 16) := by kernel_rfl
/-- Blocks of cells stay, where the walk keeps its books. -/
theorem cells_stay {B : Nat} {W W' : World} {row : Option Nat} (hg : W.grownBy W' row) (hr : ∀ r, row = some r → B ≤ r ∧ ∃ o : Obj, W.heap[r]? = some o ∧ o.isCells = false) {k : Nat} {c : Array Value} {t : TypeId} {p : Nat × Nat} (hk : W.heap[k]? = some (.cells c t p)) : W'.heap[k]? = some (.cells c t p) := by
  have hl : k < W.heap.size := (Array.getElem?_eq_some_iff.1 hk).1
  rw [hg.block k hl (fun e => by
    obtain ⟨_, o, ho, hc⟩ := hr k e.symm
    rw [hk] at ho
    have : Obj.cells c t p = o := Option.some.inj ho
    rw [← this] at hc; cases hc), hk]
theorem own_stay {B : Nat} {W W' : World} {row : Option Nat} (hg : W.grownBy W' row) (hr : ∀ r, row = some r → B ≤ r ∧ ∃ o : Obj, W.heap[r]? = some o ∧ o.isCells = false) {b e size n : Nat} {v : Value} {xs : List Value} (h : W.ownsRow b e size v n xs) : W'.ownsRow b e size v n xs := by
  obtain ⟨h1, h2⟩ := h
  refine ⟨h1, ?_⟩
  rcases h2 with h2 | ⟨g, cap, cur, hv, hB, hgg, r⟩
  · exact .inl h2
  · exact .inr ⟨g, cap, cur, hv, hB, cells_stay hg hr hgg, r⟩
/-- The list that is being made, in its box. -/
def ListBox (G n : Nat) (W : World) : Prop := ∃ v xs, W.heap[G]? = some (.cells #[v] 44 (0, 0)) ∧ W.ownsRow (G + 1) 9 1 v n xs

set_option maxHeartbeats 2000000 in
theorem list_any (B D : Nat) (s : Sk) (F : Nat → Fl) (vn vs vc : Value) (l : Int) (vb : Nat → Value) (w : World) (h : DiskAt w B D s F vn vs vc l vb) (hl : s.names.length ≤ 100000) :
    Calls Try.prog 38 #[.pointer (some ⟨D, 0, none⟩)] w fun e w' => (∃ p c, e = .returned (.tuple #[.slice p s.names.length c, .int .i64 0])) ∧ Below w.heap.size w w' := by
  refine (callsIn_wide (n := 5)).1 ?_
  refine callsIn_of_wp_marks Try.func38 rfl trivial ?_ rfl
  have c6 : w.cell? ⟨D, 6, none⟩ = some (.bool false) := by rw [cell_of_row w D 6 _ _ _ h.blk]; rfl
  simp only [Try.ntmps38, List.size_toArray, List.length_cons, List.length_nil, Nat.reduceAdd, Nat.reduceSub, Array.replicate_succ, Array.replicate_zero, List.push_toArray, List.append_toArray, List.nil_append, List.cons_append]
  obtain ⟨p, cap, hvn, hents⟩ := ents_of_own (own_zero h.rn)
  have HD := hide h
  have hDw : D < w.heap.size := lt_of_block h.blk
  gi_wp2_with (refine ⟨trivial, ?_⟩; gi_at_call 56; refine (all_in _ _ trivial rfl _ _).mono ?_; rintro e w' ⟨rfl, rfl⟩)
  obtain ⟨i0, hi, hz0, hz1, hz2⟩ := info_parts Try.info_str
  obtain ⟨W0, hW0⟩ : ∃ W0, ((w.alloc (.cells #[.slice none 0 0] 44)).alloc (.cells #[.pointer (some ⟨D, 1, none⟩)] 78)) = W0 := ⟨_, rfl⟩
  have hsz : W0.heap.size = w.heap.size + 2 := by rw [← hW0]; simp
  have hB0 : Below w.heap.size w W0 := by rw [← hW0]; exact ((Below.refl _ w).alloc (Nat.le_refl _) _).alloc (by simp) _
  have hU0 : W0.heap[w.heap.size]? = some (.cells #[.slice none 0 0] 44 (0, 0)) := by
    rw [← hW0, Below.heap_alloc _ _ _ (by simp)]; exact World.alloc_heap_new w _
  have hP0 : W0.cell? ⟨w.heap.size + 1, 0, none⟩ = some (.pointer (some ⟨D, 1, none⟩)) := by
    have := World.alloc_heap_new (w.alloc (.cells #[.slice none 0 0] 44)) (.cells #[.pointer (some ⟨D, 1, none⟩)] 78)
    rw [World.size_alloc, hW0] at this
    simp [World.cell?, this]
  have hT0 : W0.cell? ⟨D, 1, none⟩ = some (.slice p s.names.length cap) := by
    rw [hB0.cell (p := ⟨D, 1, none⟩) hDw, cell_of_row w D 1 _ _ _ h.blk, ← hvn]; rfl
  have hC0 : ∀ j (hj : j < s.names.length), ∃ g, p = some ⟨g, 0, none⟩ ∧ g < w.heap.size ∧ True ∧ W0.cell? ⟨g, j * 2, none⟩ = some (.string s.names[j].1) ∧ W0.cell? ⟨g, j * 2 + 1, none⟩ = some (fptr s.names[j].2) := fun j hj => by
    obtain ⟨g, e, c0, c1⟩ := hents j hj
    have hg := World.block_lt_of_cell? w _ c0
    exact ⟨g, e, hg, trivial, (hB0.cell (p := ⟨g, j * 2, none⟩) hg).trans c0, (hB0.cell (p := ⟨g, j * 2 + 1, none⟩) hg).trans c1⟩
  rw [hW0]
  clear hW0 hents hvn h
  refine wpIn_rangeFunc_ownG rfl (by omega) (gf := 71) (lb := #[.pointer (some ⟨w.heap.size + 1, 0, none⟩)]) rfl trivial (enters_of Try.func71 (by kernel_rfl) rfl)
    (all_stops _ _ trivial rfl (by omega) (w.heap.size + 1) D 1 w.heap.size (fun _ => True) p cap s.names hl W0 (by omega) (by omega) (by omega) hP0 hT0 hC0) (fun h k => h.trans k) (KeptN.bk (by omega)) (Below.refl _ _) (fun _ => rfl)
    (fun pre W => ListBox w.heap.size pre.length W ∧ Below w.heap.size W0 W)
    (fun _ _ _ => False)
    (OwnFrom.and (fun pre W W' row hI hg hr => by obtain ⟨v, xs, h1, h2⟩ := hI; exact ⟨v, xs, cells_stay hg hr h1, own_stay hg hr h2⟩) (ownFrom_below (by omega) (by omega)))
    (fun _ _ _ _ _ hs _ _ => hs)
    ⟨⟨_, _, hU0, World.ownsRow_nil _ _ _ _⟩, Below.refl _ _⟩
    (fun y => { tmps := #[.pointer (some ⟨D, 0, none⟩), undef, .slice none 0 0, .int .i64 0, .pointer (some ⟨w.heap.size, 0, none⟩), .string y.1.1, .pointer (some ⟨D, 0, none⟩), .pointer (some ⟨D, 0, none⟩), .pointer (some ⟨D, 6, none⟩), .bool false, .pointer (some ⟨D, 0, none⟩), .pointer (some ⟨D, 0, none⟩), .pointer (some ⟨D, 1, none⟩), .func (.func 71) #[] #[.pointer (some ⟨w.heap.size + 1, 0, none⟩)], .string y.1.1, fptr y.1.2, undef, undef, undef, undef, undef], defers := [] }) ?assign ?body ?done ?stop
  case assign =>
    intro l y W K hK
    gi_wp2
    exact hK
  case body =>
    rintro l' pre ⟨⟨ya, yf⟩, hy⟩ W ⟨⟨v, xs, hUW, hrow⟩, hBW⟩ hlt
    obtain ⟨pv, kv, rfl, _⟩ := own_slice hrow
    have u0 : W.cell? ⟨w.heap.size, 0, none⟩ = some (.slice pv pre.length kv) := by rw [cell_of_row W _ 0 _ _ _ hUW]; rfl
    have hwl : w.heap.size < W.heap.size := lt_of_block hUW
    have hnb : some w.heap.size ≠ (Value.slice pv pre.length kv).ownBlock := fun e => by have := (hrow.lt _ e.symm).1; omega
    unfold fptr
    gi_wp2_with (gi_at_builtin; go_loud (refine wpListIn_append_own _ rfl _ _ 44 rfl (w.heap.size + 1) 9 i0 (.string ⟨#[]⟩) 1 16 Try.underlying44 hi hz0 hz1 hz2 rfl (by decide) (.slice pv pre.length kv) _ _ rfl (hrow.alloc _) ⟨W.heap.size, 0, none⟩ 1 1 [.string ya] rfl rfl (cell_one_new _ _ _) (by simp [Value.oneCell']) (by unfold maxLen; omega) (by omega) (Nat.le_trans (show w.heap.size + 1 ≤ W.heap.size by omega) (by simp)) ?_; intro v' w1 hown1 hgrow1 _; obtain ⟨g1, cap1, rfl⟩ := ownsRow_succ hown1; have hbx : w1.heap[w.heap.size]? = some (.cells #[.slice pv pre.length kv] 44 (0, 0)) := (hgrow1.block w.heap.size (Nat.lt_trans hwl (by simp)) hnb).trans ((Below.heap_alloc W _ _ hwl).trans hUW); have q0 : w1.cell? ⟨w.heap.size, 0, none⟩ = some (.slice pv pre.length kv) := (cell_of_row w1 _ 0 _ _ _ hbx).trans rfl; have qf : w1.frozen? ⟨w.heap.size, 0, none⟩ = false := by (simp [World.frozen?, hbx])))
    have hko : KeepsOthers W (w1.setCell ⟨w.heap.size, 0, none⟩ (.slice (some ⟨g1, 0, none⟩) (pre.length + 1) cap1)) := by
      refine ((KeepsOthers.alloc W _).trans (KeepsOthers.of_grownBy hgrow1 fun j o' ej hj => ?_)).trans (KeepsOthers.setCell _ _ _)
      obtain ⟨cur, hc, _⟩ := own_blk (hrow.alloc _) ej
      rw [hc] at hj; cases hj; rfl
    have hbb : Below w.heap.size W (w1.setCell ⟨w.heap.size, 0, none⟩ (.slice (some ⟨g1, 0, none⟩) (pre.length + 1) cap1)) :=
      (((Below.refl w.heap.size W).alloc (by omega) _).grown hgrow1 (by simp; omega) (fun k hk => by have := (hrow.lt k hk).1; omega)).setCell (p := ⟨w.heap.size, 0, none⟩) (Nat.le_refl _) _
    have hbl := heap_setCell_same w1 w.heap.size 0 _ _ (.slice (some ⟨g1, 0, none⟩) (pre.length + 1) cap1) hbx
    exact ⟨hko.from _, ⟨hbb.os, hbb.tape, hbb.output, hbb.size, fun k hk _ => hbb.block k hk⟩, ⟨.slice (some ⟨g1, 0, none⟩) (pre.length + 1) cap1, _, hbl, by rw [List.length_append]; exact ownsRow_setCell_below hown1 (show w.heap.size < w.heap.size + 1 by omega) _⟩, hBW.trans hbb⟩
  case done =>
    rintro Dd ys W hDd hys ⟨⟨v, xs, hUW, hrow⟩, hBW⟩ hK
    have hyl : ys.length = s.names.length := by rw [hys, List.length_attach]
    rw [hyl] at hrow
    obtain ⟨pv, kv, rfl, _⟩ := own_slice hrow
    have u0 : W.cell? ⟨w.heap.size, 0, none⟩ = some (.slice pv s.names.length kv) := by rw [cell_of_row W _ 0 _ _ _ hUW]; rfl
    have hB1 := hB0.trans hBW
    clear hys hUW hyl hrow
    gi_wp2
    refine ⟨by simp, .inl ⟨_, _, rfl, run_takeDeferred hK, ?_⟩⟩
    refine ⟨.tuple #[.slice pv s.names.length kv, .int .i64 0], by simp [results, Try.results38, go_sem], ⟨pv, kv, rfl⟩, ?_⟩
    exact hB1.grown (grownBy_putObj' W Dd _) hB1.size (fun k hk => by cases hk; omega)
  case stop =>
    intro D' c pre W _ _ h
    exact h.elim
theorem flist_any (B D : Nat) (s : Sk) (F : Nat → Fl) (vn vs vc : Value) (l : Int) (vb : Nat → Value) (w : World) (h : DiskAt w B D s F vn vs vc l vb) (hl : s.names.length ≤ 100000) :
    Calls Try.prog 21 #[.pointer (some ⟨D, 0, none⟩)] w fun e w' => (∃ p c, e = .returned (.tuple #[.slice p s.names.length c, .int .i64 0])) ∧ Below w.heap.size w w' := by
  have hc := list_any B D s F vn vs vc l vb w h hl
  clear h hl
  go_enter Try.func21, Try.ntmps21
  go_wp2_with fail
  refine hc.mono ?_
  rintro e w1 ⟨⟨p, c, rfl⟩, h⟩
  go_wp2
  go_ret2
  exact ⟨⟨p, c, rfl⟩, h⟩
end Go.Proofs.Yteflnddphpjahaa.Dk
