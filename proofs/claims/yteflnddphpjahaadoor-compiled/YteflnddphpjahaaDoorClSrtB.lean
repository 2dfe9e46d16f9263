import Derived.Test.YteflnddphpjahaaDoorClSrtA
import Derived.BigRegion
/-
  Edges in a row: one is stored anew; two are exchanged.
-/
set_option linter.unusedVariables false
set_option linter.unusedSimpArgs false
set_option maxRecDepth 100000
namespace Go.Proofs.YteflnddphpjahaaDoor
open Go.RowKit

theorem ed_len (E : List Sp.Ed) : (edCells E).length = E.length * 3 := by
  induction E with
  | nil => rfl
  | cons p t ih => simp [edCells] at ih ⊢; omega
theorem ed_set (E : List Sp.Ed) (x : Sp.Ed) : ∀ j, j < E.length → (((edCells E).set (j * 3) (.int .i64 (x.frm : Int))).set (j * 3 + 1) (.int .i64 (x.to : Int))).set (j * 3 + 2) (.int .i64 x.n) = edCells (E.set j x) := by
  induction E with
  | nil => intro j h; simp at h
  | cons p t ih =>
    intro j h
    have e : ∀ (q : Sp.Ed) (u : List Sp.Ed), edCells (q :: u) = .int .i64 (q.frm : Int) :: .int .i64 (q.to : Int) :: .int .i64 q.n :: edCells u := fun q u => by simp [edCells]
    cases j with
    | zero => simp [e]
    | succ j =>
      have := ih j (by simpa using h)
      rw [List.set_cons_succ, e, e, ← this, show (j + 1) * 3 = j * 3 + 1 + 1 + 1 by omega]
      simp [List.set_cons_succ]

def putE (w : World) (g j : Nat) (x : Sp.Ed) : World := ((w.setCell ⟨g, j * 3, none⟩ (.int .i64 (x.frm : Int))).setCell ⟨g, j * 3 + 1, none⟩ (.int .i64 (x.to : Int))).setCell ⟨g, j * 3 + 2, none⟩ (.int .i64 x.n)

theorem own_put {w : World} {B e g cap : Nat} {X : List Sp.Ed} (h : w.ownsRow B e 3 (.slice (some ⟨g, 0, none⟩) X.length cap) X.length (edCells X)) (j : Nat) (hj : j < X.length) (x : Sp.Ed) :
    (putE w g j x).ownsRow B e 3 (.slice (some ⟨g, 0, none⟩) X.length cap) X.length (edCells (X.set j x)) ∧ w.grownBy (putE w g j x) (some g) := by
  obtain ⟨h1, h2⟩ := h
  rcases h2 with ⟨hv, hn⟩ | ⟨g', cap', cur, hv, hB, hg, hnc, hcm, hcs, ht⟩
  · omega
  · injection hv with e1 e2 e3
    injection e1 with e1
    injection e1 with e1
    subst e1 e3
    have s1 := setCell_eq_setRow w g (j * 3) cur e (0, 0) (.int .i64 (x.frm : Int)) hg
    have g1 := setRow_heap w g cur (cur.setIfInBounds (j * 3) (.int .i64 (x.frm : Int))) e (0, 0) hg
    have s2 := setCell_eq_setRow _ g (j * 3 + 1) _ e (0, 0) (.int .i64 (x.to : Int)) g1
    have g2 := setRow_heap _ g _ ((cur.setIfInBounds (j * 3) (.int .i64 (x.frm : Int))).setIfInBounds (j * 3 + 1) (.int .i64 (x.to : Int))) e (0, 0) g1
    have s3 := setCell_eq_setRow _ g (j * 3 + 2) _ e (0, 0) (.int .i64 x.n) g2
    have g3 := setRow_heap _ g _ (((cur.setIfInBounds (j * 3) (.int .i64 (x.frm : Int))).setIfInBounds (j * 3 + 1) (.int .i64 (x.to : Int))).setIfInBounds (j * 3 + 2) (.int .i64 x.n)) e (0, 0) g2
    have eW : putE w g j x = ((w.setRow g (cur.setIfInBounds (j * 3) (.int .i64 (x.frm : Int)))).setRow g ((cur.setIfInBounds (j * 3) (.int .i64 (x.frm : Int))).setIfInBounds (j * 3 + 1) (.int .i64 (x.to : Int)))).setRow g (((cur.setIfInBounds (j * 3) (.int .i64 (x.frm : Int))).setIfInBounds (j * 3 + 1) (.int .i64 (x.to : Int))).setIfInBounds (j * 3 + 2) (.int .i64 x.n)) := by
      unfold putE; rw [s1, s2, s3]
    rw [eW]
    refine ⟨⟨by rw [ed_len, List.length_set], .inr ⟨g, cap, _, rfl, hB, g3, hnc, hcm, by simpa using hcs, ?_⟩⟩, ⟨rfl, rfl, rfl, by simp [World.setRow], fun k hk hkg => ?_⟩⟩
    · rw [← ed_set X x j hj, ← ht]
      simp only [Array.toList_setIfInBounds, List.take_set]
    · have hkg' : k ≠ g := fun e => hkg (by rw [e])
      rw [setRow_other _ g k _ hkg', setRow_other _ g k _ hkg', setRow_other _ g k _ hkg']

theorem grown_trans {a b c : World} {r : Option Nat} (h : a.grownBy b r) (k : b.grownBy c r) : a.grownBy c r :=
  ⟨k.os.trans h.os, k.tape.trans h.tape, k.output.trans h.output, Nat.le_trans h.size k.size, fun i hi hr => (k.block i (Nat.lt_of_lt_of_le hi h.size) hr).trans (h.block i hi hr)⟩
theorem grown_below {w w' : World} {r : Option Nat} (h : Below w.heap.size w w') : w.grownBy w' r := ⟨h.os, h.tape, h.output, h.size, fun k hk _ => h.block k hk⟩
theorem grown_refl (w : World) (r : Option Nat) : w.grownBy w r := ⟨rfl, rfl, rfl, Nat.le_refl _, fun _ _ _ => rfl⟩

/-- Two exchanged. -/
def exch (X : List Sp.Ed) (i j : Nat) (hi : i < X.length) (hj : j < X.length) : List Sp.Ed := (X.set i X[j]).set j X[i]
theorem own_exch {w : World} {B e g cap : Nat} {X : List Sp.Ed} (h : w.ownsRow B e 3 (.slice (some ⟨g, 0, none⟩) X.length cap) X.length (edCells X)) (i j : Nat) (hi : i < X.length) (hj : j < X.length) :
    (putE (putE w g i X[j]) g j X[i]).drew.ownsRow B e 3 (.slice (some ⟨g, 0, none⟩) X.length cap) X.length (edCells (exch X i j hi hj)) ∧ w.grownBy (putE (putE w g i X[j]) g j X[i]).drew (some g) := by
  obtain ⟨h1, k1⟩ := own_put h i hi X[j]
  have hl : (X.set i X[j]).length = X.length := List.length_set
  have h1' := h1
  rw [← hl] at h1'
  obtain ⟨h2, k2⟩ := own_put h1' j (by rw [hl]; exact hj) X[i]
  rw [hl] at h2
  exact ⟨own_below h2 (Below.refl _ _).drew, grown_trans (grown_trans k1 k2) (grown_below (Below.refl _ _).drew)⟩
end Go.Proofs.YteflnddphpjahaaDoor
