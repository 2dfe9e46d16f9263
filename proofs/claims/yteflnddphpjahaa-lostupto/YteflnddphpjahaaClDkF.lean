import Derived.Test.YteflnddphpjahaaClDkE
import Derived.BigRegionIn
/-
  A disk: Used.
-/
set_option linter.unusedVariables false
set_option linter.unusedSimpArgs false
set_option maxRecDepth 100000
namespace Go.Proofs.Yteflnddphpjahaa.Dk
open Go.RowKit Go.Shelf
attribute [local go_sem] Oper.semAt_some

theorem KeptN.bk {N : Nat} {ok : Nat → Prop} {w : World} (hn : N ≤ w.heap.size) (W : World) (l : Nat) (o o' : Obj) (hl : w.heap.size ≤ l) (h : W.heap[l]? = some o) (_ : o.isCells = false) (_ : o.isWalk = false) : KeptN N ok W (W.putObj l o') :=
  KeptN.putObj W l o o' (by omega) h
/-- A block of cells stays, where the walk keeps its books. -/
theorem blk_own {β : Type} (B k : Nat) (f : β → Obj) (hf : ∀ s, (f s).isCells = true) : OwnFrom B (fun (s : β) W => W.heap[k]? = some (f s)) := fun s W W' row hs hg hr => by
  have hs : W.heap[k]? = some (f s) := hs
  have hk : k < W.heap.size := (Array.getElem?_eq_some_iff.1 hs).1
  refine (hg.block k hk (fun e => ?_)).trans hs
  obtain ⟨_, o, ho, hc⟩ := hr k e.symm
  rw [hs] at ho
  have : f s = o := Option.some.inj ho
  rw [← this, hf s] at hc; cases hc
def used (F : Nat → Fl) (T : Sd.Tb) : Nat := (T.map fun p => (F p.2).bytes.size).sum

theorem used_le (F : Nat → Fl) {T : Sd.Tb} (pre : List { x : ByteArray × Nat // x ∈ T }) (hu : ∀ p ∈ T, (F p.2).bytes.size ≤ 1099511627776) : used F (pre.map (·.1)) ≤ pre.length * 1099511627776 := by
  induction pre with
  | nil => simp [used]
  | cons p t ih =>
    have h := hu p.1 p.2
    simp only [used, List.map_cons, List.sum_cons, List.length_cons, Nat.succ_mul] at ih ⊢
    omega
set_option maxHeartbeats 2000000 in
theorem used_any (B D : Nat) (s : Sk) (F : Nat → Fl) (vn vs vc : Value) (l : Int) (vb : Nat → Value) (w : World) (h : DiskAt w B D s F vn vs vc l vb) (hl : s.names.length ≤ 100000) (hu : ∀ p ∈ s.names, (F p.2).bytes.size ≤ 1099511627776) :
    Calls Try.prog 52 #[.pointer (some ⟨D, 0, none⟩)] w fun e w' => e = .returned (.int .i64 (used F s.names)) ∧ Below w.heap.size w w' := by
  refine (callsIn_wide (n := 5)).1 ?_
  refine callsIn_of_wp_marks Try.func52 rfl trivial ?_ rfl
  simp only [Try.ntmps52, List.size_toArray, List.length_cons, List.length_nil, Nat.reduceAdd, Nat.reduceSub, Array.replicate_succ, Array.replicate_zero, List.push_toArray, List.append_toArray, List.nil_append, List.cons_append]
  obtain ⟨p, cap, hvn, hents⟩ := ents_of_own (own_zero h.rn)
  have HD := hide h
  have hDw : D < w.heap.size := lt_of_block h.blk
  gi_wp2_with (refine ⟨trivial, ?_⟩; gi_at_call 56; refine (all_in _ _ trivial rfl _ _).mono ?_; rintro e w' ⟨rfl, rfl⟩)
  obtain ⟨W0, hW0⟩ : ∃ W0, ((w.alloc (.cells #[.int .i64 0] 3)).alloc (.cells #[.pointer (some ⟨D, 1, none⟩)] 78)) = W0 := ⟨_, rfl⟩
  have hsz : W0.heap.size = w.heap.size + 2 := by rw [← hW0]; simp
  have hB0 : Below w.heap.size w W0 := by rw [← hW0]; exact ((Below.refl _ w).alloc (Nat.le_refl _) _).alloc (by simp) _
  have hU0 : W0.heap[w.heap.size]? = some (.cells #[.int .i64 0] 3 (0, 0)) := by
    rw [← hW0, Below.heap_alloc _ _ _ (by simp)]; exact World.alloc_heap_new w _
  have hP0 : W0.cell? ⟨w.heap.size + 1, 0, none⟩ = some (.pointer (some ⟨D, 1, none⟩)) := by
    have := World.alloc_heap_new (w.alloc (.cells #[.int .i64 0] 3)) (.cells #[.pointer (some ⟨D, 1, none⟩)] 78)
    rw [World.size_alloc, hW0] at this
    simp [World.cell?, this]
  have hT0 : W0.cell? ⟨D, 1, none⟩ = some (.slice p s.names.length cap) := by
    rw [hB0.cell (p := ⟨D, 1, none⟩) hDw, cell_of_row w D 1 _ _ _ h.blk, ← hvn]; rfl
  have hC0 : ∀ j (hj : j < s.names.length), ∃ g, p = some ⟨g, 0, none⟩ ∧ g < w.heap.size ∧ True ∧ W0.cell? ⟨g, j * 2, none⟩ = some (.string s.names[j].1) ∧ W0.cell? ⟨g, j * 2 + 1, none⟩ = some (fptr s.names[j].2) := fun j hj => by
    obtain ⟨g, e, c0, c1⟩ := hents j hj
    have hg := World.block_lt_of_cell? w _ c0
    exact ⟨g, e, hg, trivial, (hB0.cell (p := ⟨g, j * 2, none⟩) hg).trans c0, (hB0.cell (p := ⟨g, j * 2 + 1, none⟩) hg).trans c1⟩
  rw [hW0]
  clear hW0 hents hvn h
  refine wpIn_rangeFunc_ownG rfl (by omega) (gf := 71) (lb := #[.pointer (some ⟨w.heap.size + 1, 0, none⟩)]) rfl trivial (enters_of Try.func71 (by kernel_rfl) rfl)
    (all_stops _ _ trivial rfl (by omega) (w.heap.size + 1) D 1 w.heap.size (fun _ => True) p cap s.names hl W0 (by omega) (by omega) (by omega) hP0 hT0 hC0) (fun h k => h.trans k) (KeptN.bk (by omega)) (Below.refl _ _) (fun _ => rfl)
    (fun pre W => W.heap[w.heap.size]? = some (.cells #[.int .i64 (used F (pre.map (·.1)))] 3 (0, 0)) ∧ Below w.heap.size W0 W)
    (fun _ _ _ => False)
    (OwnFrom.and (blk_own _ _ (fun pre : List { x : ByteArray × Nat // x ∈ s.names } => Obj.cells #[.int .i64 (used F (pre.map (·.1)))] 3 (0, 0)) (fun _ => rfl)) (ownFrom_below (by omega) (by omega)))
    (fun _ _ _ _ _ hs _ _ => hs)
    ⟨hU0, Below.refl _ _⟩
    (fun y => { tmps := #[.pointer (some ⟨D, 0, none⟩), undef, .int .i64 0, .pointer (some ⟨w.heap.size, 0, none⟩), undef, fptr y.1.2, .pointer (some ⟨D, 0, none⟩), .pointer (some ⟨D, 0, none⟩), .pointer (some ⟨D, 1, none⟩), .func (.func 71) #[] #[.pointer (some ⟨w.heap.size + 1, 0, none⟩)], .string y.1.1, fptr y.1.2, undef, undef, undef, undef, undef, undef, undef, undef], defers := [] }) ?assign ?body ?done ?stop
  case assign =>
    intro l y W K hK
    gi_wp2
    exact hK
  case body =>
    rintro l' pre ⟨⟨ya, yf⟩, hy⟩ W ⟨hUW, hBW⟩ hlt
    have hd := (unhide HD).below (hB0.trans hBW)
    have hff := hd.files yf (Or.inl ⟨ya, hy⟩)
    obtain ⟨pb, cb, hvb, _⟩ := own_slice hff.row
    have hfb := hff.blk
    rw [hvb] at hfb
    have k0 : W.cell? ⟨yf, 0, none⟩ = some (.slice pb (F yf).bytes.size cb) := by rw [cell_of_row W _ 0 _ _ _ hfb]; rfl
    have u0 : W.cell? ⟨w.heap.size, 0, none⟩ = some (.int .i64 (used F (pre.map (·.1)))) := by rw [cell_of_row W _ 0 _ _ _ hUW]; rfl
    have uf : W.frozen? ⟨w.heap.size, 0, none⟩ = false := by simp [World.frozen?, hUW]
    have hs1 := hu (ya, yf) hy
    have hs2 : used F (pre.map (·.1)) ≤ 109951162777600000 := Nat.le_trans (used_le F pre hu) (Nat.le_trans (Nat.mul_le_mul_right 1099511627776 (show pre.length ≤ 100000 by omega)) (by decide))
    have hnext : used F ((pre ++ [(⟨(ya, yf), hy⟩ : { x : ByteArray × Nat // x ∈ s.names })]).map (·.1)) = used F (pre.map (·.1)) + (F yf).bytes.size := by simp [used]
    generalize used F (pre.map (·.1)) = U at hUW u0 hs2 hnext
    have hs1 : (F yf).bytes.size ≤ 1099511627776 := hs1
    have HN := hide hnext
    have HU := hide hUW
    have HB := hide hBW
    clear hd hff hfb hvb hnext hUW hBW
    unfold fptr
    gi_wp2
    gi_region
    all_goals
      have ew : IntKind.i64.wrap ((U : Int) + ((F yf).bytes.size : Int)) = ((U + (F yf).bytes.size : Nat) : Int) := by rw [IntKind.wrap_i64]; omega
      rw [ew]
      have hko : KeepsOthers W (W.setCell ⟨w.heap.size, 0, none⟩ (.int .i64 ((U + (F yf).bytes.size : Nat) : Int))).drew := ⟨(KeepsOthers.setCell W _ _).1, (KeepsOthers.setCell W _ _).2⟩
      have hbl : (W.setCell ⟨w.heap.size, 0, none⟩ (.int .i64 ((U + (F yf).bytes.size : Nat) : Int))).drew.heap[w.heap.size]? = some (.cells #[.int .i64 ((U + (F yf).bytes.size : Nat) : Int)] 3 (0, 0)) := heap_setCell_same W w.heap.size 0 _ _ _ (unhide HU)
      have hbb : Below w.heap.size W (W.setCell ⟨w.heap.size, 0, none⟩ (.int .i64 ((U + (F yf).bytes.size : Nat) : Int))).drew := ((Below.refl w.heap.size W).setCell (p := ⟨w.heap.size, 0, none⟩) (Nat.le_refl _) _).drew
      exact ⟨hko.from _, ⟨hbb.os, hbb.tape, hbb.output, hbb.size, fun k hk _ => hbb.block k hk⟩, by rw [unhide HN]; exact hbl, (unhide HB).trans hbb⟩
  case done =>
    rintro Dd ys W hDd hys ⟨hUW, hBW⟩ hK
    have hUW : W.heap[w.heap.size]? = some (.cells #[.int .i64 (used F s.names)] 3 (0, 0)) := by
      rw [hys, List.attach_map_subtype_val] at hUW; exact hUW
    have u0 : W.cell? ⟨w.heap.size, 0, none⟩ = some (.int .i64 (used F s.names)) := by rw [cell_of_row W _ 0 _ _ _ hUW]; rfl
    have hB1 := hB0.trans hBW
    clear hys hUW
    gi_wp2
    refine ⟨by simp, .inl ⟨_, _, rfl, run_takeDeferred hK, ?_⟩⟩
    refine ⟨.int .i64 (used F s.names), by simp [results, Try.results52, go_sem], rfl, ?_⟩
    exact hB1.grown (grownBy_putObj' W Dd _) hB1.size (fun k hk => by cases hk; omega)
  case stop =>
    intro D' c pre W _ _ h
    exact h.elim
end Go.Proofs.Yteflnddphpjahaa.Dk
