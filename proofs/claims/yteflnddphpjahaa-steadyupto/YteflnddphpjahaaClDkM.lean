import Derived.Test.YteflnddphpjahaaClDkL
/-
  A disk: what is removed, what is renamed.
-/
set_option linter.unusedVariables false
set_option linter.unusedSimpArgs false
set_option maxRecDepth 100000
namespace Go.Proofs.Yteflnddphpjahaa.Dk
open Go.RowKit

set_option maxHeartbeats 400000 in
theorem removed_any (s : ByteArray) (w : World) (hs : s.size ≤ 100) : Calls Try.prog 66 #[.string s] w fun e w' => e = .returned (.agg #[.string s, .string ⟨#[]⟩, .pointer none]) ∧ Below w.heap.size w w' := by
  go_enter Try.func66, Try.ntmps66
  go_wp2_with fail
  refine (clone_any s _ (by omega)).mono ?_
  rintro e w1 ⟨rfl, hb⟩
  have hz := hb.size
  have hrb : w1.heap[w.heap.size]? = some (.cells #[.string ⟨#[]⟩, .string ⟨#[]⟩, .pointer none] 70 (0, 0)) := (hb.block w.heap.size (by simp)).trans (heap_alloc_new w _)
  have c0 : w1.cell? ⟨w.heap.size, 0, none⟩ = some (.string ⟨#[]⟩) := by rw [cell_of_row w1 _ 0 _ _ _ hrb]; rfl
  have c1 : w1.cell? ⟨w.heap.size, 1, none⟩ = some (.string ⟨#[]⟩) := by rw [cell_of_row w1 _ 1 _ _ _ hrb]; rfl
  have c2 : w1.cell? ⟨w.heap.size, 2, none⟩ = some (.pointer none) := by rw [cell_of_row w1 _ 2 _ _ _ hrb]; rfl
  have f0 : w1.frozen? ⟨w.heap.size, 0, none⟩ = false := by simp [World.frozen?, hrb]
  have f1 : w1.frozen? ⟨w.heap.size, 1, none⟩ = false := by simp [World.frozen?, hrb]
  have f2 : w1.frozen? ⟨w.heap.size, 2, none⟩ = false := by simp [World.frozen?, hrb]
  have hsz : w.heap.size < w1.heap.size := by simp at hz; omega
  go_wp2
  have hp3 : (((w1.setCell ⟨w.heap.size, 0, none⟩ (.string s)).setCell ⟨w.heap.size, 1, none⟩ (.string ⟨#[]⟩)).setCell ⟨w.heap.size, 2, none⟩ (.pointer none)).heap[w.heap.size]? = some (.cells #[.string s, .string ⟨#[]⟩, .pointer none] 70 (0, 0)) := by
    have h1 := heap_setCell_same w1 w.heap.size 0 _ _ (.string s) hrb
    have h2 := heap_setCell_same _ w.heap.size 1 _ _ (.string ⟨#[]⟩) h1
    have h3 := heap_setCell_same _ w.heap.size 2 _ _ (.pointer none) h2
    exact h3
  have hb3 : Below w.heap.size w (((w1.setCell ⟨w.heap.size, 0, none⟩ (.string s)).setCell ⟨w.heap.size, 1, none⟩ (.string ⟨#[]⟩)).setCell ⟨w.heap.size, 2, none⟩ (.pointer none)) :=
    (((((Below.refl _ w).alloc (Nat.le_refl _) _).trans (hb.mono (by simp))).setCell (Nat.le_refl _) _).setCell (Nat.le_refl _) _).setCell (Nat.le_refl _) _
  generalize (((w1.setCell ⟨w.heap.size, 0, none⟩ (.string s)).setCell ⟨w.heap.size, 1, none⟩ (.string ⟨#[]⟩)).setCell ⟨w.heap.size, 2, none⟩ (.pointer none)) = W at hp3 hb3 ⊢
  have m0 : W.cell? ⟨w.heap.size, 0, none⟩ = some (.string s) := by rw [cell_of_row W _ 0 _ _ _ hp3]; rfl
  have m1 : W.cell? ⟨w.heap.size, 1, none⟩ = some (.string ⟨#[]⟩) := by rw [cell_of_row W _ 1 _ _ _ hp3]; rfl
  have m2 : W.cell? ⟨w.heap.size, 2, none⟩ = some (.pointer none) := by rw [cell_of_row W _ 2 _ _ _ hp3]; rfl
  exact bodyPost_ret (v := .agg #[.string s, .string ⟨#[]⟩, .pointer none]) (by simp [results, Try.results66, go_sem, m0, m1, m2]) rfl ⟨rfl, hb3⟩
set_option maxHeartbeats 400000 in
theorem renamed_any (s t : ByteArray) (f : Nat) (w : World) (hs : s.size ≤ 100) (ht : t.size ≤ 100) : Calls Try.prog 65 #[.string s, .string t, fptr f] w fun e w' => e = .returned (.agg #[.string s, .string t, fptr f]) ∧ Below w.heap.size w w' := by
  unfold fptr
  go_enter Try.func65, Try.ntmps65
  go_wp2_with fail
  refine (clone_any s _ (by omega)).mono ?_
  rintro e w0 ⟨rfl, hb0⟩
  go_wp2_with fail
  refine (clone_any t _ (by omega)).mono ?_
  rintro e w1 ⟨rfl, hb1⟩
  have hb := hb0.trans (hb1.mono hb0.size)
  clear hb0 hb1
  have hz := hb.size
  have hrb : w1.heap[w.heap.size]? = some (.cells #[.string ⟨#[]⟩, .string ⟨#[]⟩, .pointer none] 70 (0, 0)) := (hb.block w.heap.size (by simp)).trans (heap_alloc_new w _)
  have c0 : w1.cell? ⟨w.heap.size, 0, none⟩ = some (.string ⟨#[]⟩) := by rw [cell_of_row w1 _ 0 _ _ _ hrb]; rfl
  have c1 : w1.cell? ⟨w.heap.size, 1, none⟩ = some (.string ⟨#[]⟩) := by rw [cell_of_row w1 _ 1 _ _ _ hrb]; rfl
  have c2 : w1.cell? ⟨w.heap.size, 2, none⟩ = some (.pointer none) := by rw [cell_of_row w1 _ 2 _ _ _ hrb]; rfl
  have f0 : w1.frozen? ⟨w.heap.size, 0, none⟩ = false := by simp [World.frozen?, hrb]
  have f1 : w1.frozen? ⟨w.heap.size, 1, none⟩ = false := by simp [World.frozen?, hrb]
  have f2 : w1.frozen? ⟨w.heap.size, 2, none⟩ = false := by simp [World.frozen?, hrb]
  have hsz : w.heap.size < w1.heap.size := by simp at hz; omega
  go_wp2
  have hp3 : (((w1.setCell ⟨w.heap.size, 0, none⟩ (.string s)).setCell ⟨w.heap.size, 1, none⟩ (.string t)).setCell ⟨w.heap.size, 2, none⟩ (.pointer (some ⟨f, 0, none⟩))).heap[w.heap.size]? = some (.cells #[.string s, .string t, .pointer (some ⟨f, 0, none⟩)] 70 (0, 0)) := by
    have h1 := heap_setCell_same w1 w.heap.size 0 _ _ (.string s) hrb
    have h2 := heap_setCell_same _ w.heap.size 1 _ _ (.string t) h1
    have h3 := heap_setCell_same _ w.heap.size 2 _ _ (.pointer (some ⟨f, 0, none⟩)) h2
    exact h3
  have hb3 : Below w.heap.size w (((w1.setCell ⟨w.heap.size, 0, none⟩ (.string s)).setCell ⟨w.heap.size, 1, none⟩ (.string t)).setCell ⟨w.heap.size, 2, none⟩ (.pointer (some ⟨f, 0, none⟩))) :=
    (((((Below.refl _ w).alloc (Nat.le_refl _) _).trans (hb.mono (by simp))).setCell (Nat.le_refl _) _).setCell (Nat.le_refl _) _).setCell (Nat.le_refl _) _
  generalize (((w1.setCell ⟨w.heap.size, 0, none⟩ (.string s)).setCell ⟨w.heap.size, 1, none⟩ (.string t)).setCell ⟨w.heap.size, 2, none⟩ (.pointer (some ⟨f, 0, none⟩))) = W at hp3 hb3 ⊢
  have m0 : W.cell? ⟨w.heap.size, 0, none⟩ = some (.string s) := by rw [cell_of_row W _ 0 _ _ _ hp3]; rfl
  have m1 : W.cell? ⟨w.heap.size, 1, none⟩ = some (.string t) := by rw [cell_of_row W _ 1 _ _ _ hp3]; rfl
  have m2 : W.cell? ⟨w.heap.size, 2, none⟩ = some (.pointer (some ⟨f, 0, none⟩)) := by rw [cell_of_row W _ 2 _ _ _ hp3]; rfl
  exact bodyPost_ret (v := .agg #[.string s, .string t, .pointer (some ⟨f, 0, none⟩)]) (by simp [results, Try.results65, go_sem, m0, m1, m2, fptr]) rfl ⟨rfl, hb3⟩
end Go.Proofs.Yteflnddphpjahaa.Dk
