import Derived.Test.YteflnddphpjahaaDoorProg
import Derived.Test.YteflnddphpjahaaDoorClPlAtoPlI
import Derived.Test.YteflnddphpjahaaDoorClRefFtoRefG
import Derived.WalkKit
import Derived.Outline
import Derived.Deep.DeepMust
import Derived.Deep.QuietTactic
import Derived.BigQuiet
/-
  The walk of strideref's wrong.
-/
set_option linter.unusedVariables false
set_option linter.unusedSimpArgs false
set_option maxRecDepth 100000
namespace Go.Proofs.YteflnddphpjahaaDoor
open Go.RowKit

/-- Numbers lie in memory. -/
def NumsAt (w : World) (q : Option Addr) (A : List Nat) : Prop :=
  ∀ k (h : k < A.length), ∃ g, q = some ⟨g, 0, none⟩ ∧ w.cell? ⟨g, k, none⟩ = some (.int .i64 (A[k] : Int))

theorem below_drewN (w : World) (n : Nat) : Below w.heap.size w (w.drewN n) := by
  induction n with
  | zero => exact Below.refl _ _
  | succ n ih => exact ih.drew

theorem wrong_4 {L : List Sp.Ln} {A : List Nat} {k : Nat} (h : k < L.length) (hA : k < A.length) (hk : ∀ j, j < k → Sp.twiceAt L j = false) (hp : Sp.twiceAt L k = true) : Sp.wrongSpec L A = (4, (A[k] : Int)) := by
  unfold Sp.wrongSpec; rw [Sp.first_some h hk hp]; simp [hA]
theorem wrong_5 {L : List Sp.Ln} {A : List Nat} {k : Nat} (h0 : ∀ j, j < L.length → Sp.twiceAt L j = false) (h : k < L.length) (hA : k < A.length) (hk : ∀ j, j < k → Sp.loose L j = false) (hp : Sp.loose L k = true) : Sp.wrongSpec L A = (5, (A[k] : Int)) := by
  unfold Sp.wrongSpec; rw [Sp.first_none h0]; simp only; rw [Sp.first_some h hk hp]; simp [hA]
theorem wrong_6 {L : List Sp.Ln} {A : List Nat} (h0 : ∀ j, j < L.length → Sp.twiceAt L j = false) (h1 : ∀ j, j < L.length → Sp.loose L j = false) :
    Sp.wrongSpec L A = if 256 < Sp.edges L ∨ 64 < L.length - Sp.edges L then (6, 0) else (0, 0) := by
  unfold Sp.wrongSpec; rw [Sp.first_none h0]; simp only; rw [Sp.first_none h1]
theorem all_next {p : Nat → Bool} {k : Nat} (h : ∀ j, j < k → p j = false) (hk : p k = false) : ∀ j, j < k + 1 → p j = false := by
  intro j hj
  by_cases e : j = k
  · rw [e]; exact hk
  · exact h j (by omega)

set_option maxHeartbeats 4000000 in
theorem wrong_any (p q : Option Addr) (cap cap' : Nat) (L : List Sp.Ln) (A : List Nat) (w : World) (hLA : A.length = L.length) (hL : L.length ≤ 5000) (hc : LinesAt w p L) (hq : NumsAt w q A) :
    Calls Tryd.prog 25 #[.slice p L.length cap, .slice q L.length cap'] w fun e w' => e = .returned (.tuple #[.int .i64 (Sp.wrongSpec L A).1, .int .i64 (Sp.wrongSpec L A).2]) ∧ Below w.heap.size w w' := by
  have HLA := hide hLA
  clear hLA
  go_enter Tryd.func25, Tryd.ntmps25
  go_wp2
  go_loopw [6] (fun i wr => ∃ k : Nat, k ≤ L.length ∧ i = .int .i64 k ∧ Hid (∀ j, j < k → Sp.twiceAt L j = false) ∧ w = wr) (fun i _ => L.length - (intOf i).toNat)
  case atStart => exact ⟨0, Nat.zero_le _, rfl, fun j hj => by omega, rfl⟩
  case round =>
    obtain ⟨k, hk, rfl, HT, hwr⟩ := hrel
    subst hwr
    by_cases hlt : k < L.length
    · obtain ⟨g, rfl, c0, c1, _, _⟩ := hc k hlt
      have hkA : k < A.length := by rw [unhide HLA]; exact hlt
      obtain ⟨g', rfl, d0⟩ := hq k hkA
      go_wp2_with fail
      refine (vertex_any _ _ L k _ rfl _ _ hk hL hc).mono ?_
      rintro e w' ⟨r, rfl, hw', hr⟩
      obtain rfl := hw'.symm
      by_cases he : L[k].edge = true
      · have HN : Hid (∀ j, j < k + 1 → Sp.twiceAt L j = false) := all_next (unhide HT) (Sp.twice_no hlt (Or.inl he))
        have HR := hide hr
        clear hr
        go_wp2
        go_roundw
        case rel => exact ⟨k + 1, by omega, by go_num, HN, by trivial⟩
        case measure => simp [intOf]; omega
      · have he' : L[k].edge = false := by simpa using he
        cases hv : Sp.hasV L k L[k].frm with
        | true =>
          have HN : Hid (Sp.wrongSpec L A = (4, (A[k] : Int))) := wrong_4 hlt hkA (unhide HT) (Sp.twice_yes hlt he' hv)
          have hr' : 0 ≤ r := hr.2 hv
          have HR := hide hr
          clear hr
          go_wp2
          go_quiet (fail)
          go_wp2
          go_ret2
          exact ⟨by rw [unhide HN]; rfl, below_drewN _ _⟩
        | false =>
          have HN : Hid (∀ j, j < k + 1 → Sp.twiceAt L j = false) := all_next (unhide HT) (Sp.twice_no hlt (Or.inr hv))
          have hr' : ¬ 0 ≤ r := fun h => by rw [hr.1 h] at hv; cases hv
          have HR := hide hr
          clear hr
          go_wp2
          go_roundw
          case rel => exact ⟨k + 1, by omega, by go_num, HN, by trivial⟩
          case measure => simp [intOf]; omega
    · obtain rfl : k = L.length := by omega
      go_wp2
      go_loopw [8, 9] (fun c i wr => ∃ k m : Nat, k ≤ L.length ∧ m ≤ k ∧ i = .int .i64 k ∧ c = .int .i64 m ∧ Hid (m = Sp.edgesTo L k) ∧ Hid (∀ j, j < k → Sp.loose L j = false) ∧ w = wr) (fun _ i _ => L.length - (intOf i).toNat)
      case atStart => exact ⟨0, 0, Nat.zero_le _, Nat.zero_le _, rfl, rfl, rfl, fun j hj => by omega, rfl⟩
      case round =>
        obtain ⟨k, m, hk, hmk, rfl, rfl, HM, HO, hwr⟩ := hrel
        subst hwr
        by_cases hlt : k < L.length
        · obtain ⟨g, rfl, c0, c1, c2, _⟩ := hc k hlt
          have hkA : k < A.length := by rw [unhide HLA]; exact hlt
          obtain ⟨g', rfl, d0⟩ := hq k hkA
          by_cases he : L[k].edge = true
          · have HM' : Hid (m + 1 = Sp.edgesTo L (k + 1)) := by show _ = _; rw [Sp.edgesTo_yes hlt he, ← unhide HM]
            go_wp2_with fail
            refine (vertex_any _ _ L L.length _ rfl _ _ (Nat.le_refl _) hL hc).mono ?_
            rintro e w' ⟨r, rfl, hw', hr⟩
            obtain rfl := hw'.symm
            have HR := hide hr
            clear hr
            go_wp2_with fail
            refine (vertex_any _ _ L L.length _ rfl _ _ (Nat.le_refl _) hL hc).mono ?_
            rintro e w' ⟨r', rfl, hw', hr'⟩
            obtain rfl := hw'.symm
            have HR' := hide hr'
            clear hr'
            by_cases h1 : r < 0
            · have HN : Hid (Sp.wrongSpec L A = (5, (A[k] : Int))) := wrong_5 (unhide HT) hlt hkA (unhide HO) (Sp.loose_yes hlt he (Or.inl (by
                cases hv : Sp.hasV L L.length L[k].frm with
                | true => have := (unhide HR).2 hv; omega
                | false => rfl)))
              go_wp2
              go_quiet (fail)
              go_wp2
              go_ret2
              exact ⟨by rw [unhide HN]; rfl, below_drewN _ _⟩
            by_cases h2 : r' < 0
            · have HN : Hid (Sp.wrongSpec L A = (5, (A[k] : Int))) := wrong_5 (unhide HT) hlt hkA (unhide HO) (Sp.loose_yes hlt he (Or.inr (by
                cases hv : Sp.hasV L L.length L[k].to with
                | true => have := (unhide HR').2 hv; omega
                | false => rfl)))
              go_wp2
              go_quiet (fail)
              go_wp2
              go_ret2
              exact ⟨by rw [unhide HN]; rfl, below_drewN _ _⟩
            · have HN : Hid (∀ j, j < k + 1 → Sp.loose L j = false) := all_next (unhide HO) (Sp.loose_no hlt (Or.inr ⟨(unhide HR).1 (by omega), (unhide HR').1 (by omega)⟩))
              go_wp2
              go_roundw
              case rel => exact ⟨k + 1, m + 1, by omega, by omega, by go_num, by go_num, HM', HN, by trivial⟩
              case measure => simp [intOf]; omega
          · have he' : L[k].edge = false := by simpa using he
            have HM' : Hid (m = Sp.edgesTo L (k + 1)) := by show _ = _; rw [Sp.edgesTo_no hlt he']; exact unhide HM
            have HN : Hid (∀ j, j < k + 1 → Sp.loose L j = false) := all_next (unhide HO) (Sp.loose_no hlt (Or.inl he'))
            go_wp2
            go_roundw
            case rel => exact ⟨k + 1, m, by omega, by omega, by go_num, rfl, HM', HN, by trivial⟩
            case measure => simp [intOf]; omega
        · obtain rfl : k = L.length := by omega
          have HE : Hid (m = Sp.edges L) := by show _ = _; rw [unhide HM]; exact Sp.edgesTo_all (Nat.le_refl _)
          have HW := hide (wrong_6 (A := A) (unhide HT) (unhide HO))
          rw [← unhide HE] at HW
          by_cases h1 : 256 < m
          · go_wp2
            go_ret2
            exact ⟨by rw [unhide HW, if_pos (Or.inl h1)]; rfl, Below.refl _ _⟩
          by_cases h2 : 64 < L.length - m
          · have h2' : 64 < (L.length : Int) - (m : Int) := by omega
            go_wp2
            go_ret2
            exact ⟨by rw [unhide HW, if_pos (Or.inr h2)]; rfl, Below.refl _ _⟩
          · have h2' : ¬ 64 < (L.length : Int) - (m : Int) := by omega
            go_wp2
            go_ret2
            exact ⟨by rw [unhide HW, if_neg (by omega)]; rfl, Below.refl _ _⟩
end Go.Proofs.YteflnddphpjahaaDoor
