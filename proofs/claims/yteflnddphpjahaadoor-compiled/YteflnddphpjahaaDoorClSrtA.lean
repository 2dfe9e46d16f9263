import Derived.Test.YteflnddphpjahaaDoorClGatAtoGatB
import Derived.Deep.RegionHeld3
import Derived.Deep.DeepMust
/-
  How the program compares two edges.
-/
set_option linter.unusedVariables false
set_option linter.unusedSimpArgs false
set_option maxRecDepth 100000
namespace Go.Proofs.YteflnddphpjahaaDoor
open Go.RowKit

theorem isNaN_int (x : Int) (w : World) : Calls Tryd.prog 78 #[.int .i64 x] w fun e w' => e = .returned (.bool false) ∧ w' = w := by
  have h : (x != x) = false := by simp
  go_enter Tryd.func78, Tryd.ntmps78
  go_wp2
  go_ret
  exact ⟨rfl, rfl⟩

theorem compare_int (x y : Int) (w : World) : Calls Tryd.prog 59 #[.int .i64 x, .int .i64 y] w fun e w' => e = .returned (.int .i64 (cmpI x y)) ∧ w' = w := by
  rcases Int.lt_trichotomy x y with h | h | h
  · have e1 : cmpI x y = -1 := if_pos h
    rw [e1]; clear e1
    go_enter Tryd.func59, Tryd.ntmps59
    go_wp2_with (go_at_call 78; refine (isNaN_int _ _).mono ?_; rintro e w' ⟨rfl, rfl⟩)
    go_ret
    exact ⟨rfl, rfl⟩
  · subst h
    have e1 : cmpI x x = 0 := by simp [cmpI]
    rw [e1]; clear e1
    have hx : ¬ x < x := Int.lt_irrefl x
    go_enter Tryd.func59, Tryd.ntmps59
    go_wp2_with (go_at_call 78; refine (isNaN_int _ _).mono ?_; rintro e w' ⟨rfl, rfl⟩)
    go_ret
    exact ⟨rfl, rfl⟩
  · have hn : ¬ x < y := by omega
    have e1 : cmpI x y = 1 := by unfold cmpI; rw [if_neg hn, if_pos h]
    rw [e1]; clear e1
    go_enter Tryd.func59, Tryd.ntmps59
    go_wp2_with (go_at_call 78; refine (isNaN_int _ _).mono ?_; rintro e w' ⟨rfl, rfl⟩)
    go_ret
    exact ⟨rfl, rfl⟩

def orI (x y : Int) : Int := if x = 0 then y else x
set_option maxHeartbeats 1000000 in
theorem or_two (g : Nat) (x y : Int) (w : World) (h0 : w.cell? ⟨g, 0, none⟩ = some (.int .i64 x)) (h1 : w.cell? ⟨g, 1, none⟩ = some (.int .i64 y)) :
    Calls Tryd.prog 58 #[.slice (some ⟨g, 0, none⟩) 2 2] w fun e w' => e = .returned (.int .i64 (orI x y)) ∧ w' = w := by
  go_enter Tryd.func58, Tryd.ntmps58
  go_wp2
  go_loopw [8] (fun i wr => wr = w ∧ (i = .int .i64 0 ∨ (i = .int .i64 1 ∧ Hid (x = 0)) ∨ (i = .int .i64 2 ∧ Hid (x = 0) ∧ Hid (y = 0)))) (fun i _ => 2 - (intOf i).toNat)
  case atStart => exact ⟨rfl, Or.inl rfl⟩
  case round =>
    obtain ⟨rfl, hr⟩ := hrel
    rcases hr with rfl | ⟨rfl, HX⟩ | ⟨rfl, HX, HY⟩
    · by_cases hx : x = 0
      · have HX := hide hx
        have hx1 : (x != 0) = false := by simp [hx]
        clear hx
        go_wp2
        go_roundw
        case rel => exact ⟨by trivial, Or.inr (Or.inl ⟨rfl, HX⟩)⟩
        case measure => simp [intOf]
      · have hx1 : (x != 0) = true := by simp [hx]
        have HO : Hid (orI x y = x) := if_neg hx
        clear hx
        go_wp2
        go_ret
        exact ⟨by rw [unhide HO]; rfl, rfl⟩
    · have HO : Hid (orI x y = y) := if_pos (unhide HX)
      by_cases hy : y = 0
      · have HY := hide hy
        have hy1 : (y != 0) = false := by simp [hy]
        clear hy
        go_wp2
        go_roundw
        case rel => exact ⟨by trivial, Or.inr (Or.inr ⟨rfl, HX, HY⟩)⟩
        case measure => simp [intOf]
      · have hy1 : (y != 0) = true := by simp [hy]
        clear hy
        go_wp2
        go_ret
        exact ⟨by rw [unhide HO]; rfl, rfl⟩
    · have HO : Hid (orI x y = 0) := (if_pos (unhide HX)).trans (unhide HY)
      go_wp2
      go_ret
      exact ⟨by rw [unhide HO]; rfl, rfl⟩

def edVal (e : Sp.Ed) : Value := .agg #[.int .i64 (e.frm : Int), .int .i64 (e.to : Int), .int .i64 e.n]
def cmpE (a b : Sp.Ed) : Int := orI (cmpI a.frm b.frm) (cmpI a.to b.to)
theorem cmpE_neg (a b : Sp.Ed) : cmpE a b < 0 ↔ (a.frm < b.frm ∨ (a.frm = b.frm ∧ a.to < b.to)) := by
  unfold cmpE orI cmpI
  repeat' split
  all_goals omega

theorem cell_new2 (W : World) (x y : Value) (e n : Nat) (hn : n = W.heap.size) : (W.alloc (.cells #[x, y] e)).cell? ⟨n, 0, none⟩ = some x ∧ (W.alloc (.cells #[x, y] e)).cell? ⟨n, 1, none⟩ = some y := by
  subst hn
  exact ⟨cell_of_row _ _ 0 _ _ _ (heap_alloc_new W _), cell_of_row _ _ 1 _ _ _ (heap_alloc_new W _)⟩

theorem or_new (W : World) (n : Nat) (hn : n = W.heap.size) (x y : Int) : Calls Tryd.prog 58 #[.slice (some ⟨n, 0, none⟩) 2 2] (W.alloc (.cells #[.int .i64 x, .int .i64 y] 3)).drew fun e w' => e = .returned (.int .i64 (orI x y)) ∧ w' = (W.alloc (.cells #[.int .i64 x, .int .i64 y] 3)).drew :=
  or_two n x y _ (cell_new2 W _ _ _ n hn).1 (cell_new2 W _ _ _ n hn).2

set_option maxHeartbeats 2000000 in
theorem edgeCmp_any (a b : Sp.Ed) (w : World) : Calls Tryd.prog 57 #[edVal a, edVal b] w fun e w' => e = .returned (.int .i64 (cmpE a b)) ∧ Below w.heap.size w w' := by
  unfold edVal
  unfold cmpE
  generalize ((a.frm : Nat) : Int) = a0 at *
  generalize ((a.to : Nat) : Int) = a1 at *
  generalize ((b.frm : Nat) : Int) = b0 at *
  generalize ((b.to : Nat) : Int) = b1 at *
  go_enter Tryd.func57, Tryd.ntmps57
  go_wp2_with fail
  go_region_held3 (fun w' => (w'.cell? ⟨w.heap.size, 0, none⟩ = some (.int .i64 a0) ∧ w'.cell? ⟨w.heap.size, 1, none⟩ = some (.int .i64 a1)) ∧ (w'.cell? ⟨w.heap.size + 1, 0, none⟩ = some (.int .i64 b0) ∧ w'.cell? ⟨w.heap.size + 1, 1, none⟩ = some (.int .i64 b1)))
    (go_keep)
    (first | (go_at_call 59; refine (compare_int _ _ _).mono ?_; rintro e w' ⟨rfl, hw⟩; obtain rfl := hw.symm) | (go_at_call 58; refine (or_new _ _ (by simp) (cmpI a0 b0) (cmpI a1 b1)).mono ?_; rintro e w' ⟨rfl, hw⟩; obtain rfl := hw.symm))
  go_wp2
  go_ret
  refine ⟨rfl, ?_⟩
  exact ((((Below.refl _ _).alloc (Nat.le_refl _) _).alloc (by simp) _).alloc (by simp; omega) _).drew
end Go.Proofs.YteflnddphpjahaaDoor
