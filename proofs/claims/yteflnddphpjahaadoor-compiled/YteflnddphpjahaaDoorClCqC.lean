import Derived.Test.YteflnddphpjahaaDoorClCqB
import Derived.Deep.RegionHeld3
import Derived.WalkSmall
/-
  The program's machine, dry: put and take.
-/
set_option linter.unusedVariables false
set_option linter.unusedSimpArgs false
set_option maxRecDepth 100000
namespace Go.Proofs.YteflnddphpjahaaDoor
open Go.RowKit

/-- A dry machine: its code, where it is, its fuel, its height, its loops. -/
structure Dry (w : World) (M : Nat) (code : Value) (at' fuel h : Nat) (loops : Value) : Prop where
  c0 : w.cell? ⟨M, 0, none⟩ = some code
  c1 : w.cell? ⟨M, 1, none⟩ = some (.int .i64 at')
  c2 : w.cell? ⟨M, 2, none⟩ = some (.int .i64 fuel)
  sg : ∀ j, j < 9 → ∃ n : Int, w.cell? ⟨M, 3 + j, none⟩ = some (.int .i64 n)
  st : ∀ j, j < 16 → ∃ n : Int, w.cell? ⟨M, 12 + j, none⟩ = some (.int .i64 n)
  hh : w.cell? ⟨M, 28, none⟩ = some (.int .i64 h)
  ll : w.cell? ⟨M, 29, none⟩ = some loops
  dr : w.cell? ⟨M, 30, none⟩ = some (.bool true)
  fz : ∀ j, w.frozen? ⟨M, j, none⟩ = false
/-- Only the block M is written. -/
structure Only (M : Nat) (w w' : World) : Prop where
  size : w'.heap.size = w.heap.size
  block : ∀ b, b ≠ M → w'.heap[b]? = w.heap[b]?
  os : w'.os = w.os
  tape : w'.tape = w.tape
  output : w'.output = w.output
theorem Only.refl (M : Nat) (w : World) : Only M w w := ⟨rfl, fun _ _ => rfl, rfl, rfl, rfl⟩
theorem Only.trans {M : Nat} {w w' w'' : World} (h : Only M w w') (h' : Only M w' w'') : Only M w w'' := ⟨h'.1.trans h.1, fun b hb => (h'.2 b hb).trans (h.2 b hb), h'.os.trans h.os, h'.tape.trans h.tape, h'.output.trans h.output⟩
theorem Only.drew {M : Nat} {w w' : World} (h : Only M w w') : Only M w w'.drew := ⟨h.1, h.2, h.os, h.tape, h.output⟩
theorem Only.below {M : Nat} {w w' : World} (h : Only M w w') : Below M w w' := ⟨h.os, h.tape, h.output, Nat.le_of_eq h.size.symm, fun b hb => h.block b (by omega)⟩
theorem Only.set {M : Nat} {w w' : World} (h : Only M w w') (j : Nat) (v : Value) : Only M w (w'.setCell ⟨M, j, none⟩ v) := by
  refine ⟨by rw [← h.1]; simp, fun b hb => ?_, h.os, h.tape, h.output⟩
  rw [← h.2 b hb]
  exact Below.heap_setCell _ _ _ _ hb
theorem cell_set_other {W : World} {M i j : Nat} {v : Value} (h : i ≠ j) : (W.setCell ⟨M, i, none⟩ v).cell? ⟨M, j, none⟩ = W.cell? ⟨M, j, none⟩ :=
  World.cell?_setCell_other W ⟨M, i, none⟩ ⟨M, j, none⟩ v (by intro e; injection e with _ e1; exact h e1)
theorem Dry.drew {w : World} {M at' fuel h : Nat} {code loops : Value} (hd : Dry w M code at' fuel h loops) : Dry w.drew M code at' fuel h loops := ⟨hd.c0, hd.c1, hd.c2, hd.sg, hd.st, hd.hh, hd.ll, hd.dr, hd.fz⟩
theorem Dry.val {w : World} {M at' fuel h : Nat} {code loops : Value} (hd : Dry w M code at' fuel h loops) (i : Nat) (hi : i < 16) (v : Int) : Dry (w.setCell ⟨M, 12 + i, none⟩ (.int .i64 v)) M code at' fuel h loops := by
  obtain ⟨c0, c1, c2, sg, st, hh, ll, dr, fz⟩ := hd
  refine ⟨?_, ?_, ?_, fun j hj => ?_, fun j hj => ?_, ?_, ?_, ?_, fun j => ?_⟩
  · rw [cell_set_other (by omega)]; exact c0
  · rw [cell_set_other (by omega)]; exact c1
  · rw [cell_set_other (by omega)]; exact c2
  · rw [cell_set_other (by omega)]; exact sg j hj
  · by_cases e : i = j
    · subst e
      obtain ⟨n, hn⟩ := st i hi
      exact ⟨v, World.cell?_setCell_same _ _ _ hn⟩
    · rw [cell_set_other (by omega)]; exact st j hj
  · rw [cell_set_other (by omega)]; exact hh
  · rw [cell_set_other (by omega)]; exact ll
  · rw [cell_set_other (by omega)]; exact dr
  · rw [World.frozen?_setCell]; exact fz j
theorem Dry.hgt {w : World} {M at' fuel h : Nat} {code loops : Value} (hd : Dry w M code at' fuel h loops) (h' : Nat) : Dry (w.setCell ⟨M, 28, none⟩ (.int .i64 h')) M code at' fuel h' loops := by
  obtain ⟨c0, c1, c2, sg, st, hh, ll, dr, fz⟩ := hd
  refine ⟨?_, ?_, ?_, fun j hj => ?_, fun j hj => ?_, ?_, ?_, ?_, fun j => ?_⟩
  · rw [cell_set_other (by omega)]; exact c0
  · rw [cell_set_other (by omega)]; exact c1
  · rw [cell_set_other (by omega)]; exact c2
  · rw [cell_set_other (by omega)]; exact sg j hj
  · rw [cell_set_other (by omega)]; exact st j hj
  · exact World.cell?_setCell_same _ _ _ hh
  · rw [cell_set_other (by omega)]; exact ll
  · rw [cell_set_other (by omega)]; exact dr
  · rw [World.frozen?_setCell]; exact fz j
set_option maxHeartbeats 1000000 in
theorem put_ok (v : Int) (M at' fuel h : Nat) (code loops : Value) (w : World) (hd : Dry w M code at' fuel h loops) (hh : h < 16) : Calls Tryd.prog 82 #[.pointer (some ⟨M, 0, none⟩), .int .i64 v] w fun e w' => e = .returned (.tuple #[]) ∧ Dry w' M code at' fuel (h + 1) loops ∧ Only M w w' := by
  have e1 := hd.hh
  obtain ⟨x, e2⟩ := hd.st h hh
  have e3 := hd.fz (12 + h)
  have e4 := hd.fz 28
  have g1 : (((h : Nat) : Int) == 16) = false := beq_eq_false_iff_ne.2 (by omega)
  have g2 : (0 : Int) ≤ (h : Int) := Int.natCast_nonneg _
  have g3 : (h : Int) < (16 : Int) := by omega
  go_enter Tryd.func82, Tryd.ntmps82
  go_wp2
  go_region
  go_wp2
  exact bodyPost_end (results_none rfl _ _ _) rfl ⟨rfl, ((hd.val h hh v).hgt (h + 1)).drew, (((Only.refl M w).set _ _).set _ _).drew⟩
set_option maxHeartbeats 1000000 in
theorem put_full (v : Int) (M at' fuel h : Nat) (code loops : Value) (w : World) (hd : Dry w M code at' fuel h loops) (hh : h = 16) (u : TypeId) (p : Value) (he : w.cell? ⟨4, 0, none⟩ = some (.iface u p)) : Calls Tryd.prog 82 #[.pointer (some ⟨M, 0, none⟩), .int .i64 v] w fun e w' => e = .panicked [{ v := .iface u p, recovered := false }] ∧ w' = w := by
  have e1 := hd.hh
  subst hh
  go_enter Tryd.func82, Tryd.ntmps82
  go_wp2
  exact ⟨rfl, rfl, rfl⟩
set_option maxHeartbeats 1000000 in
theorem take_ok (M at' fuel h : Nat) (code loops : Value) (w : World) (hd : Dry w M code at' fuel (h + 1) loops) (hh : h < 16) : Calls Tryd.prog 104 #[.pointer (some ⟨M, 0, none⟩)] w fun e w' => e = .returned (.int .i64 1) ∧ Dry w' M code at' fuel h loops ∧ Only M w w' := by
  have e1 := hd.hh
  have e4 := hd.fz 28
  have e5 := hd.dr
  have g1 : ((((h + 1 : Nat)) : Int) == 0) = false := beq_eq_false_iff_ne.2 (by omega)
  have g2 : ((h + 1 : Nat) : Int) - 1 = (h : Int) := by omega
  go_enter Tryd.func104, Tryd.ntmps104
  go_wp2
  exact bodyPost_ret (v := .int .i64 1) (by simp [results, Tryd.results104, go_sem]) rfl ⟨rfl, hd.hgt h, (Only.refl M w).set _ _⟩
set_option maxHeartbeats 1000000 in
theorem take_none (M at' fuel : Nat) (code loops : Value) (w : World) (hd : Dry w M code at' fuel 0 loops) (u : TypeId) (p : Value) (he : w.cell? ⟨4, 0, none⟩ = some (.iface u p)) : Calls Tryd.prog 104 #[.pointer (some ⟨M, 0, none⟩)] w fun e w' => e = .panicked [{ v := .iface u p, recovered := false }] ∧ w' = w := by
  have e1 := hd.hh
  go_enter Tryd.func104, Tryd.ntmps104
  go_wp2
  exact ⟨rfl, rfl, rfl⟩
theorem Only.cell {M : Nat} {w w' : World} (h : Only M w w') {b j : Nat} (hb : b ≠ M) : w'.cell? ⟨b, j, none⟩ = w.cell? ⟨b, j, none⟩ := by
  simp only [World.cell?, h.2 b hb]
set_option maxHeartbeats 1000000 in
theorem takeTwo_ok (M at' fuel h : Nat) (code loops : Value) (w : World) (hd : Dry w M code at' fuel (h + 2) loops) (hh : h + 1 < 16) : Calls Tryd.prog 92 #[.pointer (some ⟨M, 0, none⟩)] w fun e w' => e = .returned (.tuple #[.int .i64 1, .int .i64 1]) ∧ Dry w' M code at' fuel h loops ∧ Only M w w' := by
  go_enter Tryd.func92, Tryd.ntmps92
  go_wp2_with fail
  refine (take_ok M at' fuel (h + 1) code loops w hd hh).mono ?_
  rintro e w1 ⟨rfl, hd1, ho1⟩
  go_wp2_with fail
  refine (take_ok M at' fuel h code loops w1 hd1 (by omega)).mono ?_
  rintro e w2 ⟨rfl, hd2, ho2⟩
  go_wp2
  exact bodyPost_ret (v := .tuple #[.int .i64 1, .int .i64 1]) (by simp [results, Tryd.results92, go_sem]) rfl ⟨rfl, hd2, ho1.trans ho2⟩
set_option maxHeartbeats 1000000 in
theorem takeTwo_less (M at' fuel h : Nat) (code loops : Value) (w : World) (hd : Dry w M code at' fuel h loops) (hh : h < 2) (u : TypeId) (p : Value) (hM : 4 ≠ M) (he : w.cell? ⟨4, 0, none⟩ = some (.iface u p)) : Calls Tryd.prog 92 #[.pointer (some ⟨M, 0, none⟩)] w fun e w' => e = .panicked [{ v := .iface u p, recovered := false }] ∧ Only M w w' := by
  match h, hh with
  | 0, _ =>
    go_enter Tryd.func92, Tryd.ntmps92
    go_wp2_with fail
    refine (take_none M at' fuel code loops w hd u p he).mono ?_
    rintro e w1 ⟨rfl, rfl⟩
    go_wp2
    exact ⟨rfl, rfl, Only.refl _ _⟩
  | 1, _ =>
    go_enter Tryd.func92, Tryd.ntmps92
    go_wp2_with fail
    refine (take_ok M at' fuel 0 code loops w hd (by omega)).mono ?_
    rintro e w1 ⟨rfl, hd1, ho1⟩
    go_wp2_with fail
    refine (take_none M at' fuel code loops w1 hd1 u p ((ho1.cell hM).trans he)).mono ?_
    rintro e w2 ⟨rfl, rfl⟩
    go_wp2
    exact ⟨rfl, rfl, ho1⟩
end Go.Proofs.YteflnddphpjahaaDoor
