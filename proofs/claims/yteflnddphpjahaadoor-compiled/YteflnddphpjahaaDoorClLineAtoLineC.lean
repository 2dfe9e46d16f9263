import Derived.Test.YteflnddphpjahaaDoorClPlJtoPlO
import Derived.Test.YteflnddphpjahaaDoorClNumA
import Derived.Test.YteflnddphpjahaaDoorClSameA
import Derived.Outline
import Derived.Deep.DeepMust
import Derived.Deep.RegionHeld3
/-
  The program's lines: the walks of isName, isVertexHead, isEdgeHead.
-/
set_option linter.unusedVariables false
set_option linter.unusedSimpArgs false
set_option maxRecDepth 100000
namespace Go.Proofs.YteflnddphpjahaaDoor
open Go.RowKit

def nameB (r : Int) : Bool := decide (¬ (r = 32 ∨ r = 62))
theorem isName_any (r : Int) (w : World) : Calls Tryd.prog 120 #[.int .i32 r] w fun e w' => e = .returned (.bool (nameB r)) ∧ w' = w := by
  by_cases h1 : r = 32
  · have e1 : nameB r = false := by simp [nameB, h1]
    have g1 : (r != 32) = false := by simp [h1]
    rw [e1]
    clear h1 e1
    go_enter Tryd.func120, Tryd.ntmps120
    go_wp2
    go_ret
    exact ⟨rfl, rfl⟩
  · have g1 : (r != 32) = true := by simp [h1]
    by_cases h2 : r = 62
    · have e1 : nameB r = false := by simp [nameB, h2]
      have g2 : (r != 62) = false := by simp [h2]
      rw [e1]
      clear h1 h2 e1
      go_enter Tryd.func120, Tryd.ntmps120
      go_wp2
      go_ret
      exact ⟨rfl, rfl⟩
    · have e1 : nameB r = true := by simp [nameB, h1, h2]
      have g2 : (r != 62) = true := by simp [h2]
      rw [e1]
      clear h1 h2 e1
      go_enter Tryd.func120, Tryd.ntmps120
      go_wp2
      go_ret
      exact ⟨rfl, rfl⟩

/-- Is it a vertex's beginning; an edge's? -/
def vhB (r : List Int) : Bool := decide (2 ≤ r.length) && (nameB (r.getD 0 0) && (r.getD 1 0 == 32))
def ehB (r : List Int) : Bool := decide (4 ≤ r.length) && (nameB (r.getD 0 0) && ((r.getD 1 0 == 62) && (nameB (r.getD 2 0) && (r.getD 3 0 == 32))))

theorem ints_get {w : World} {k : IntKind} {p : Option Addr} {V : List Int} (h : IntsAt w k p V) (j : Nat) (hj : j < V.length) : ∃ g, p = some ⟨g, 0, none⟩ ∧ w.cell? ⟨g, j, none⟩ = some (.int k (V.getD j 0)) := by
  obtain ⟨g, a, _, b⟩ := h j hj
  exact ⟨g, a, by rw [b]; simp [hj]⟩

set_option maxHeartbeats 1000000 in
theorem vertexHead_any (p : Option Addr) (cap : Nat) (r : List Int) (w : World) (h : IntsAt w .i32 p r) (hl : r.length ≤ 5000) :
    Calls Tryd.prog 69 #[.slice p r.length cap] w fun e w' => e = .returned (.bool (vhB r)) ∧ w' = w := by
  by_cases h2 : 2 ≤ r.length
  · obtain ⟨g, rfl, c0⟩ := ints_get h 0 (by omega)
    obtain ⟨g1, e1, c1⟩ := ints_get h 1 (by omega)
    injection e1 with e1
    injection e1 with e1
    subst e1
    have ev : vhB r = (nameB (r.getD 0 0) && (r.getD 1 0 == 32)) := by unfold vhB; rw [decide_eq_true h2]; rfl
    rw [ev]
    clear ev h
    generalize r.getD 0 0 = a at c0
    generalize r.getD 1 0 = b at c1
    have h2' : 2 ≤ ((r.length : Nat) : Int) := by omega
    have z0 : (0 : Int) < ((r.length : Nat) : Int) := by omega
    have z1 : (1 : Int) < ((r.length : Nat) : Int) := by omega
    cases hn : nameB a with
    | false =>
      have HN := hide hn
      clear hn
      go_enter Tryd.func69, Tryd.ntmps69
      go_wp2_with (go_at_call 120; refine (isName_any _ _).mono ?_; rintro e w' ⟨rfl, rfl⟩; rw [unhide HN])
      go_ret
      exact ⟨rfl, rfl⟩
    | true =>
      have HN := hide hn
      clear hn
      go_enter Tryd.func69, Tryd.ntmps69
      go_wp2_with (go_at_call 120; refine (isName_any _ _).mono ?_; rintro e w' ⟨rfl, rfl⟩; rw [unhide HN])
      go_ret
      exact ⟨rfl, rfl⟩
  · have ev : vhB r = false := by unfold vhB; rw [decide_eq_false h2]; rfl
    rw [ev]
    have h2' : ((r.length : Nat) : Int) < 2 := by omega
    go_enter Tryd.func69, Tryd.ntmps69
    go_wp2
    go_ret
    exact ⟨rfl, rfl⟩

set_option maxHeartbeats 1000000 in
theorem edgeHead_any (p : Option Addr) (cap : Nat) (r : List Int) (w : World) (h : IntsAt w .i32 p r) (hl : r.length ≤ 5000) :
    Calls Tryd.prog 71 #[.slice p r.length cap] w fun e w' => e = .returned (.bool (ehB r)) ∧ w' = w := by
  by_cases h2 : 4 ≤ r.length
  · obtain ⟨g, rfl, c0⟩ := ints_get h 0 (by omega)
    obtain ⟨g1, e1, c1⟩ := ints_get h 1 (by omega)
    injection e1 with e1
    injection e1 with e1
    subst e1
    obtain ⟨g2, e2, c2⟩ := ints_get h 2 (by omega)
    injection e2 with e2
    injection e2 with e2
    subst e2
    obtain ⟨g3, e3, c3⟩ := ints_get h 3 (by omega)
    injection e3 with e3
    injection e3 with e3
    subst e3
    have ev : ehB r = (nameB (r.getD 0 0) && ((r.getD 1 0 == 62) && (nameB (r.getD 2 0) && (r.getD 3 0 == 32)))) := by unfold ehB; rw [decide_eq_true h2]; rfl
    rw [ev]
    clear ev h
    generalize r.getD 0 0 = a at c0
    generalize r.getD 1 0 = b at c1
    generalize r.getD 2 0 = c at c2
    generalize r.getD 3 0 = d at c3
    have h2' : 4 ≤ ((r.length : Nat) : Int) := by omega
    have z0 : (0 : Int) < ((r.length : Nat) : Int) := by omega
    have z1 : (1 : Int) < ((r.length : Nat) : Int) := by omega
    have z2 : (2 : Int) < ((r.length : Nat) : Int) := by omega
    have z3 : (3 : Int) < ((r.length : Nat) : Int) := by omega
    cases hn : nameB a with
    | false =>
      go_enter Tryd.func71, Tryd.ntmps71
      go_wp2_with (go_at_call 120; refine (isName_any _ _).mono ?_; rintro e w' ⟨rfl, rfl⟩)
      go_ret
      exact ⟨by simp, rfl⟩
    | true =>
      cases hb : (b == 62) with
      | false =>
        go_enter Tryd.func71, Tryd.ntmps71
        go_wp2_with (go_at_call 120; refine (isName_any _ _).mono ?_; rintro e w' ⟨rfl, rfl⟩)
        go_ret
        exact ⟨by simp, rfl⟩
      | true =>
        cases hc : nameB c with
        | false =>
          go_enter Tryd.func71, Tryd.ntmps71
          go_wp2_with (go_at_call 120; refine (isName_any _ _).mono ?_; rintro e w' ⟨rfl, rfl⟩)
          go_ret
          exact ⟨by simp, rfl⟩
        | true =>
          go_enter Tryd.func71, Tryd.ntmps71
          go_wp2_with (go_at_call 120; refine (isName_any _ _).mono ?_; rintro e w' ⟨rfl, rfl⟩)
          go_ret
          exact ⟨by simp, rfl⟩
  · have ev : ehB r = false := by unfold ehB; rw [decide_eq_false h2]; rfl
    rw [ev]
    have h2' : ((r.length : Nat) : Int) < 4 := by omega
    go_enter Tryd.func71, Tryd.ntmps71
    go_wp2
    go_ret
    exact ⟨rfl, rfl⟩

/-- What readLine answers: kind, from, to, number. -/
def plVal (k a b n : Int) : Value := .agg #[.int .i64 k, .int .i32 a, .int .i32 b, .int .i64 n]
def lnP (l : Sp.Ln) : Value := if l.edge = true then plVal 2 l.frm l.to l.n else plVal 1 l.frm 0 l.n
def LinePost (r : List Int) (w : World) (e : Ending) (w' : World) : Prop :=
  Below w.heap.size w w' ∧
  match r with
  | [] => e = .returned (.tuple #[plVal 0 0 0 0, .bool true])
  | _ :: _ => match Sp.lnOf r with
    | some l => e = .returned (.tuple #[lnP l, .bool true])
    | none => ∃ k a b n : Int, e = .returned (.tuple #[plVal k a b n, .bool false])
end Go.Proofs.YteflnddphpjahaaDoor
/-
  The program's lines: the walk of readLine.
-/
set_option linter.unusedVariables false
set_option linter.unusedSimpArgs false
set_option maxRecDepth 100000
namespace Go.Proofs.YteflnddphpjahaaDoor
open Go.RowKit

theorem ln_v {r : List Int} (h : vhB r = true) : Sp.lnOf r = (Sp.numOf (r.drop 2)).map fun n => ⟨false, r.getD 0 0, 0, n⟩ := by
  match r, h with
  | [], h => simp [vhB] at h
  | [_], h => simp [vhB] at h
  | a :: b :: t, h =>
    simp [vhB, nameB] at h
    obtain ⟨⟨h1, h2⟩, h3⟩ := h
    subst h3
    simp [Sp.lnOf, h1, h2]
theorem ln_e {r : List Int} (hv : vhB r = false) (h : ehB r = true) : Sp.lnOf r = (Sp.numOf (r.drop 4)).map fun n => ⟨true, r.getD 0 0, r.getD 2 0, n⟩ := by
  match r, h with
  | [], h => simp [ehB] at h
  | [_], h => simp [ehB] at h
  | [_, _], h => simp [ehB] at h
  | [_, _, _], h => simp [ehB] at h
  | a :: b :: c :: d :: u, h =>
    simp [ehB, nameB] at h
    obtain ⟨⟨h1, h2⟩, h3, ⟨h4, h5⟩, h6⟩ := h
    subst h3 h6
    simp [Sp.lnOf, h1, h2, h4, h5]
theorem ln_no {r : List Int} (hv : vhB r = false) (h : ehB r = false) : Sp.lnOf r = none := by
  match r, hv, h with
  | [], _, _ => rfl
  | [_], _, _ => rfl
  | [a, b], hv, _ =>
    simp [vhB, nameB] at hv
    simp only [Sp.lnOf]
    by_cases h1 : a = 32 ∨ a = 62
    · rw [if_pos h1]
    · rw [if_neg h1]
      have h2 : ¬ b = 32 := fun e => by
        have := hv (fun x => h1 (Or.inl x)) (fun x => h1 (Or.inr x)); exact this e
      rw [if_neg h2]
      split <;> rfl
  | [a, b, c], hv, _ =>
    simp [vhB, nameB] at hv
    simp only [Sp.lnOf]
    by_cases h1 : a = 32 ∨ a = 62
    · rw [if_pos h1]
    · rw [if_neg h1]
      have h2 : ¬ b = 32 := fun e => by
        have := hv (fun x => h1 (Or.inl x)) (fun x => h1 (Or.inr x)); exact this e
      rw [if_neg h2]
      split <;> rfl
  | a :: b :: c :: d :: u, hv, h =>
    simp [vhB, nameB] at hv
    simp [ehB, nameB] at h
    simp only [Sp.lnOf]
    by_cases h1 : a = 32 ∨ a = 62
    · rw [if_pos h1]
    · rw [if_neg h1]
      have h2 : ¬ b = 32 := fun e => by
        have := hv (fun x => h1 (Or.inl x)) (fun x => h1 (Or.inr x)); exact this e
      rw [if_neg h2]
      by_cases h3 : b = 62
      · rw [if_pos h3]
        by_cases h4 : c = 32 ∨ c = 62
        · rw [if_pos h4]
        · rw [if_neg h4]
          have h5 : ¬ d = 32 := fun e => h (fun x => h1 (Or.inl x)) (fun x => h1 (Or.inr x)) h3 (fun x => h4 (Or.inl x)) (fun x => h4 (Or.inr x)) e
          rw [if_neg h5]
      · rw [if_neg h3]

theorem post_no {r : List Int} {w w' : World} {k a b n : Int} (hne : r ≠ []) (h : Sp.lnOf r = none) (hb : Below w.heap.size w w') : LinePost r w (.returned (.tuple #[plVal k a b n, .bool false])) w' := by
  refine ⟨hb, ?_⟩
  cases r with
  | nil => exact absurd rfl hne
  | cons x t => rw [h]; exact ⟨k, a, b, n, rfl⟩
theorem post_yes {r : List Int} {w w' : World} {l : Sp.Ln} (h : Sp.lnOf r = some l) (hb : Below w.heap.size w w') : LinePost r w (.returned (.tuple #[lnP l, .bool true])) w' := by
  refine ⟨hb, ?_⟩
  cases r with
  | nil => cases h
  | cons x t => rw [h]

set_option maxHeartbeats 1000000 in
theorem readLine_empty (p : Option Addr) (cap : Nat) (w : World) : Calls Tryd.prog 52 #[.slice p 0 cap] w (LinePost [] w) := by
  go_enter Tryd.func52, Tryd.ntmps52
  go_wp2
  exact bodyPost_ret (v := .tuple #[plVal 0 0 0 0, .bool true]) (by simp [results, Tryd.results52, go_sem, plVal]) rfl ⟨(Below.refl _ _).alloc (Nat.le_refl _) _, rfl⟩

set_option maxHeartbeats 1000000 in
theorem readLine_no (p : Option Addr) (cap : Nat) (r : List Int) (w : World) (h : IntsAt w .i32 p r) (hl : r.length ≤ 5000) (hne : r ≠ []) (hv : vhB r = false) (he : ehB r = false) :
    Calls Tryd.prog 52 #[.slice p r.length cap] w (LinePost r w) := by
  have hlen : 0 < r.length := by cases r with | nil => exact absurd rfl hne | cons _ _ => simp
  have h0 : (((r.length : Nat) : Int) == 0) = false := beq_eq_false_iff_ne.2 (by omega)
  have HL := hide (ln_no hv he)
  have hb : Below w.heap.size w (w.alloc (.cells #[.int .i64 0, .int .i32 0, .int .i32 0, .int .i64 0] 130)) := (Below.refl _ _).alloc (Nat.le_refl _) _
  go_enter Tryd.func52, Tryd.ntmps52
  go_wp2_with fail
  refine (vertexHead_any p cap r _ (h.below hb) hl).mono ?_
  rintro e w' ⟨rfl, hw⟩
  obtain rfl := hw.symm
  rw [hv]
  go_wp2_with fail
  refine (edgeHead_any p cap r _ (h.below hb) hl).mono ?_
  rintro e w' ⟨rfl, hw⟩
  obtain rfl := hw.symm
  rw [he]
  go_wp2
  exact bodyPost_ret (v := .tuple #[plVal 0 0 0 0, .bool false]) (by simp [results, Tryd.results52, go_sem, plVal]) rfl (post_no hne (unhide HL) hb)

theorem conv_drop (w : World) (g c n0 : Nat) (r : List Int) (h : IntsAt w .i32 (some ⟨g, 0, none⟩) r) (hn : n0 ≤ r.length) :
    (convert 36 9 (.slice (some ⟨g, n0, none⟩) (r.length - n0) c)).run Tryd.prog w = .ok (.string (runesBytes (r.drop n0))) w := by
  have := run_convert_runes (P := Tryd.prog) w 36 9 21 ⟨g, n0, none⟩ (r.length - n0) c (r.drop n0) (by simp) Tryd.underlying36 Tryd.underlying21 Tryd.underlying9 (by
    intro j hj
    rw [List.length_drop] at hj
    obtain ⟨g', e, _, hc⟩ := h (n0 + j) (by omega)
    injection e with e
    injection e with e
    subst e
    rw [Addr.add_lit, hc]
    simp [List.getD, List.getElem?_drop, List.getElem?_eq_getElem (show n0 + j < r.length by omega)])
  rw [this, List.take_of_length_le (by simp)]
theorem conv_none (w : World) (g c : Nat) (r : List Int) (n0 : Nat) (hn : r.length = n0) :
    (convert 36 9 (.slice (some ⟨g, 0, none⟩) 0 c)).run Tryd.prog w = .ok (.string (runesBytes (r.drop n0))) w := by
  have := run_convert_runes (P := Tryd.prog) w 36 9 21 ⟨g, 0, none⟩ 0 c [] (by simp) Tryd.underlying36 Tryd.underlying21 Tryd.underlying9 (by intro j hj; simp at hj)
  rw [this, List.drop_of_length_le (by omega), List.take_nil]

set_option maxHeartbeats 1000000 in
theorem readLine_v (g cap : Nat) (r : List Int) (w : World) (h : IntsAt w .i32 (some ⟨g, 0, none⟩) r) (hl : r.length ≤ 5000) (hc : r.length ≤ cap) (hcm : cap ≤ maxLen) (hv : vhB r = true) (hsz : (runesBytes (r.drop 2)).size ≤ 4000) (hbd : ∀ y ∈ r, 0 ≤ y ∧ y ≤ 1114111) :
    Calls Tryd.prog 52 #[.slice (some ⟨g, 0, none⟩) r.length cap] w (LinePost r w) := by
  have hlen : 2 ≤ r.length := by
    apply Decidable.byContradiction; intro hx
    unfold vhB at hv; rw [decide_eq_false hx] at hv; cases hv
  have hne : r ≠ [] := fun e => by rw [e] at hlen; simp at hlen
  have h0 : (((r.length : Nat) : Int) == 0) = false := beq_eq_false_iff_ne.2 (by omega)
  have HL := hide (ln_v hv)
  have hb : Below w.heap.size w (w.alloc (.cells #[.int .i64 0, .int .i32 0, .int .i32 0, .int .i64 0] 130)) := (Below.refl _ _).alloc (Nat.le_refl _) _
  have h1 := h.below hb
  obtain ⟨_, e0, x0⟩ := ints_get h 0 (by omega)
  injection e0 with e0
  injection e0 with e0
  subst e0
  unfold maxLen at hcm
  have z0 : (0 : Int) < ((r.length : Nat) : Int) := by omega
  have hgl := World.block_lt_of_cell? w _ x0
  generalize hQ : runesBytes (r.drop 2) = Q at hsz
  have HQ := hide hQ
  have HW : Hid (Calls Tryd.prog 70 #[.string Q] (w.alloc (.cells #[.int .i64 0, .int .i32 0, .int .i32 0, .int .i64 0] 130)) fun e w' => e = .returned (numOut (Sp.number Q.data.toList)) ∧ Below (w.alloc (.cells #[.int .i64 0, .int .i32 0, .int .i32 0, .int .i64 0] 130)).heap.size (w.alloc (.cells #[.int .i64 0, .int .i32 0, .int .i32 0, .int .i64 0] 130)) w') := numRead_any Q _ hsz
  by_cases hcap : cap = 2
  · subst hcap
    have hr2 : r.length = 2 := by omega
    have hcv := conv_none (w.alloc (.cells #[.int .i64 0, .int .i32 0, .int .i32 0, .int .i64 0] 130)) g 0 r 2 hr2
    rw [hQ] at hcv
    clear hQ hr2
    go_enter Tryd.func52, Tryd.ntmps52
    go_wp2_with fail
    refine (vertexHead_any _ _ r _ h1 hl).mono ?_
    rintro e w' ⟨rfl, hw⟩
    obtain rfl := hw.symm
    rw [hv]
    clear hl
    go_wp2_with fail
    refine (unhide HW).mono ?_
    rintro e w2 ⟨rfl, hb2⟩
    have y0 := hb2.cell (p := ⟨w.heap.size, 0, none⟩) (by simp)
    have y1 := hb2.cell (p := ⟨w.heap.size, 1, none⟩) (by simp)
    have y2 := hb2.cell (p := ⟨w.heap.size, 2, none⟩) (by simp)
    have y3 := hb2.cell (p := ⟨w.heap.size, 3, none⟩) (by simp)
    have v0 := hb2.frozen (p := ⟨w.heap.size, 0, none⟩) (by simp)
    have v1 := hb2.frozen (p := ⟨w.heap.size, 1, none⟩) (by simp)
    have v2 := hb2.frozen (p := ⟨w.heap.size, 2, none⟩) (by simp)
    have v3 := hb2.frozen (p := ⟨w.heap.size, 3, none⟩) (by simp)
    have x0' := (hb2.cell (p := ⟨g, 0, none⟩) (by simp; omega)).trans (far_cell hgl x0)
    have hz := hb2.size
    simp at y0 y1 y2 y3 v0 v1 v2 v3 hz
    have hbf := hb.trans (hb2.mono (by simp))
    cases hq : Sp.number Q.data.toList with
    | none =>
      have HN : Hid (Sp.lnOf r = none) := by show _ = _; rw [unhide HL]; unfold Sp.numOf; rw [unhide HQ, hq]; rfl
      rw [numOut_none]
      clear hb2
      go_wp2
      exact bodyPost_ret (v := .tuple #[plVal 1 (r.getD 0 0) 0 0, .bool false]) (by simp [results, Tryd.results52, go_sem, plVal, y0, y1, y2, y3]) rfl (post_no hne (unhide HN) ((((hbf.setCell (Nat.le_refl _) _).setCell (Nat.le_refl _) _).setCell (Nat.le_refl _) _).setCell (Nat.le_refl _) _))
    | some v =>
      have HN : Hid (Sp.lnOf r = some ⟨false, r.getD 0 0, 0, v⟩) := by show _ = _; rw [unhide HL]; unfold Sp.numOf; rw [unhide HQ, hq]; rfl
      rw [numOut_some]
      clear hb2
      go_wp2
      exact bodyPost_ret (v := .tuple #[lnP ⟨false, r.getD 0 0, 0, v⟩, .bool true]) (by simp [results, Tryd.results52, go_sem, plVal, lnP, y0, y1, y2, y3]) rfl (post_yes (unhide HN) ((((hbf.setCell (Nat.le_refl _) _).setCell (Nat.le_refl _) _).setCell (Nat.le_refl _) _).setCell (Nat.le_refl _) _))
  · have hcv := conv_drop (w.alloc (.cells #[.int .i64 0, .int .i32 0, .int .i32 0, .int .i64 0] 130)) g (cap - 2) 2 r h1 hlen
    rw [hQ] at hcv
    clear hQ
    have hcap' : 2 < cap := by omega
    go_enter Tryd.func52, Tryd.ntmps52
    go_wp2_with fail
    refine (vertexHead_any _ _ r _ h1 hl).mono ?_
    rintro e w' ⟨rfl, hw⟩
    obtain rfl := hw.symm
    rw [hv]
    clear hl
    go_wp2_with fail
    refine (unhide HW).mono ?_
    rintro e w2 ⟨rfl, hb2⟩
    have y0 := hb2.cell (p := ⟨w.heap.size, 0, none⟩) (by simp)
    have y1 := hb2.cell (p := ⟨w.heap.size, 1, none⟩) (by simp)
    have y2 := hb2.cell (p := ⟨w.heap.size, 2, none⟩) (by simp)
    have y3 := hb2.cell (p := ⟨w.heap.size, 3, none⟩) (by simp)
    have v0 := hb2.frozen (p := ⟨w.heap.size, 0, none⟩) (by simp)
    have v1 := hb2.frozen (p := ⟨w.heap.size, 1, none⟩) (by simp)
    have v2 := hb2.frozen (p := ⟨w.heap.size, 2, none⟩) (by simp)
    have v3 := hb2.frozen (p := ⟨w.heap.size, 3, none⟩) (by simp)
    have x0' := (hb2.cell (p := ⟨g, 0, none⟩) (by simp; omega)).trans (far_cell hgl x0)
    have hz := hb2.size
    simp at y0 y1 y2 y3 v0 v1 v2 v3 hz
    have hbf := hb.trans (hb2.mono (by simp))
    cases hq : Sp.number Q.data.toList with
    | none =>
      have HN : Hid (Sp.lnOf r = none) := by show _ = _; rw [unhide HL]; unfold Sp.numOf; rw [unhide HQ, hq]; rfl
      rw [numOut_none]
      clear hb2
      go_wp2
      exact bodyPost_ret (v := .tuple #[plVal 1 (r.getD 0 0) 0 0, .bool false]) (by simp [results, Tryd.results52, go_sem, plVal, y0, y1, y2, y3]) rfl (post_no hne (unhide HN) ((((hbf.setCell (Nat.le_refl _) _).setCell (Nat.le_refl _) _).setCell (Nat.le_refl _) _).setCell (Nat.le_refl _) _))
    | some v =>
      have HN : Hid (Sp.lnOf r = some ⟨false, r.getD 0 0, 0, v⟩) := by show _ = _; rw [unhide HL]; unfold Sp.numOf; rw [unhide HQ, hq]; rfl
      rw [numOut_some]
      clear hb2
      go_wp2
      exact bodyPost_ret (v := .tuple #[lnP ⟨false, r.getD 0 0, 0, v⟩, .bool true]) (by simp [results, Tryd.results52, go_sem, plVal, lnP, y0, y1, y2, y3]) rfl (post_yes (unhide HN) ((((hbf.setCell (Nat.le_refl _) _).setCell (Nat.le_refl _) _).setCell (Nat.le_refl _) _).setCell (Nat.le_refl _) _))
set_option maxHeartbeats 1000000 in
theorem readLine_e (g cap : Nat) (r : List Int) (w : World) (h : IntsAt w .i32 (some ⟨g, 0, none⟩) r) (hl : r.length ≤ 5000) (hc : r.length ≤ cap) (hcm : cap ≤ maxLen) (hv : vhB r = false) (he : ehB r = true) (hsz : (runesBytes (r.drop 4)).size ≤ 4000) (hbd : ∀ y ∈ r, 0 ≤ y ∧ y ≤ 1114111) :
    Calls Tryd.prog 52 #[.slice (some ⟨g, 0, none⟩) r.length cap] w (LinePost r w) := by
  have hlen : 4 ≤ r.length := by
    apply Decidable.byContradiction; intro hx
    unfold ehB at he; rw [decide_eq_false hx] at he; cases he
  have hne : r ≠ [] := fun e => by rw [e] at hlen; simp at hlen
  have h0 : (((r.length : Nat) : Int) == 0) = false := beq_eq_false_iff_ne.2 (by omega)
  have hL := ln_e hv he
  have hb : Below w.heap.size w (w.alloc (.cells #[.int .i64 0, .int .i32 0, .int .i32 0, .int .i64 0] 130)) := (Below.refl _ _).alloc (Nat.le_refl _) _
  have h1 := h.below hb
  obtain ⟨_, e0, x0⟩ := ints_get h 0 (by omega)
  injection e0 with e0
  injection e0 with e0
  subst e0
  unfold maxLen at hcm
  have z0 : (0 : Int) < ((r.length : Nat) : Int) := by omega
  have hgl := World.block_lt_of_cell? w _ x0
  obtain ⟨_, e2, x2⟩ := ints_get h 2 (by omega)
  injection e2 with e2
  injection e2 with e2
  subst e2
  have z2 : (2 : Int) < ((r.length : Nat) : Int) := by omega
  have z0n : 0 < r.length := by omega
  have z2n : 2 < r.length := by omega
  obtain ⟨a0, ha0⟩ : ∃ a, r.getD 0 0 = a := ⟨_, rfl⟩
  obtain ⟨a2, ha2⟩ : ∃ a, r.getD 2 0 = a := ⟨_, rfl⟩
  rw [ha0] at x0 hL
  rw [ha2] at x2 hL
  have HL := hide hL
  clear hL ha0 ha2
  generalize hQ : runesBytes (r.drop 4) = Q at hsz
  have HQ := hide hQ
  have HW : Hid (Calls Tryd.prog 70 #[.string Q] (w.alloc (.cells #[.int .i64 0, .int .i32 0, .int .i32 0, .int .i64 0] 130)) fun e w' => e = .returned (numOut (Sp.number Q.data.toList)) ∧ Below (w.alloc (.cells #[.int .i64 0, .int .i32 0, .int .i32 0, .int .i64 0] 130)).heap.size (w.alloc (.cells #[.int .i64 0, .int .i32 0, .int .i32 0, .int .i64 0] 130)) w') := numRead_any Q _ hsz
  by_cases hcap : cap = 4
  · subst hcap
    have hr2 : r.length = 4 := by omega
    have hcv := conv_none (w.alloc (.cells #[.int .i64 0, .int .i32 0, .int .i32 0, .int .i64 0] 130)) g 0 r 4 hr2
    rw [hQ] at hcv
    clear hQ hr2
    go_enter Tryd.func52, Tryd.ntmps52
    go_wp2_with fail
    refine (vertexHead_any _ _ r _ h1 hl).mono ?_
    rintro e w' ⟨rfl, hw⟩
    obtain rfl := hw.symm
    rw [hv]
    go_wp2_with fail
    refine (edgeHead_any _ _ r _ h1 hl).mono ?_
    rintro e w' ⟨rfl, hw⟩
    obtain rfl := hw.symm
    rw [he]
    clear hl
    go_wp2_with fail
    refine (unhide HW).mono ?_
    rintro e w2 ⟨rfl, hb2⟩
    have y0 := hb2.cell (p := ⟨w.heap.size, 0, none⟩) (by simp)
    have y1 := hb2.cell (p := ⟨w.heap.size, 1, none⟩) (by simp)
    have y2 := hb2.cell (p := ⟨w.heap.size, 2, none⟩) (by simp)
    have y3 := hb2.cell (p := ⟨w.heap.size, 3, none⟩) (by simp)
    have v0 := hb2.frozen (p := ⟨w.heap.size, 0, none⟩) (by simp)
    have v1 := hb2.frozen (p := ⟨w.heap.size, 1, none⟩) (by simp)
    have v2 := hb2.frozen (p := ⟨w.heap.size, 2, none⟩) (by simp)
    have v3 := hb2.frozen (p := ⟨w.heap.size, 3, none⟩) (by simp)
    have x0' := (hb2.cell (p := ⟨g, 0, none⟩) (by simp; omega)).trans (far_cell hgl x0)
    have x2' := (hb2.cell (p := ⟨g, 2, none⟩) (by simp; omega)).trans (far_cell hgl x2)
    have hz := hb2.size
    simp at y0 y1 y2 y3 v0 v1 v2 v3 hz
    have hbf := hb.trans (hb2.mono (by simp))
    cases hq : Sp.number Q.data.toList with
    | none =>
      have HN : Hid (Sp.lnOf r = none) := by show _ = _; rw [unhide HL]; unfold Sp.numOf; rw [unhide HQ, hq]; rfl
      rw [numOut_none]
      clear hb2
      have hgne : w.heap.size ≠ g := by omega
      go_wp2_with fail
      go_region_held3 (fun w' => w'.cell? ⟨g, 0, none⟩ = some (.int .i32 a0) ∧ w'.cell? ⟨g, 2, none⟩ = some (.int .i32 a2))
        (first | (go_keep; done) | (go_split_ands; exact ⟨(World.cell?_setCell_other _ _ _ _ (by simp; omega)).trans ((World.cell?_setCell_other _ _ _ _ (by simp; omega)).trans ((World.cell?_setCell_other _ _ _ _ (by simp; omega)).trans ((World.cell?_setCell_other _ _ _ _ (by simp; omega)).trans x0'))), (World.cell?_setCell_other _ _ _ _ (by simp; omega)).trans ((World.cell?_setCell_other _ _ _ _ (by simp; omega)).trans ((World.cell?_setCell_other _ _ _ _ (by simp; omega)).trans ((World.cell?_setCell_other _ _ _ _ (by simp; omega)).trans x2')))⟩))
        (fail)
      go_wp2
      exact bodyPost_ret (v := .tuple #[plVal 2 a0 a2 0, .bool false]) (by simp [results, Tryd.results52, go_sem, plVal, y0, y1, y2, y3]) rfl (post_no hne (unhide HN) ((((hbf.setCell (Nat.le_refl _) _).setCell (Nat.le_refl _) _).setCell (Nat.le_refl _) _).setCell (Nat.le_refl _) _).drew)
    | some v =>
      have HN : Hid (Sp.lnOf r = some ⟨true, a0, a2, v⟩) := by show _ = _; rw [unhide HL]; unfold Sp.numOf; rw [unhide HQ, hq]; rfl
      rw [numOut_some]
      clear hb2
      have hgne : w.heap.size ≠ g := by omega
      go_wp2_with fail
      go_region_held3 (fun w' => w'.cell? ⟨g, 0, none⟩ = some (.int .i32 a0) ∧ w'.cell? ⟨g, 2, none⟩ = some (.int .i32 a2))
        (first | (go_keep; done) | (go_split_ands; exact ⟨(World.cell?_setCell_other _ _ _ _ (by simp; omega)).trans ((World.cell?_setCell_other _ _ _ _ (by simp; omega)).trans ((World.cell?_setCell_other _ _ _ _ (by simp; omega)).trans ((World.cell?_setCell_other _ _ _ _ (by simp; omega)).trans x0'))), (World.cell?_setCell_other _ _ _ _ (by simp; omega)).trans ((World.cell?_setCell_other _ _ _ _ (by simp; omega)).trans ((World.cell?_setCell_other _ _ _ _ (by simp; omega)).trans ((World.cell?_setCell_other _ _ _ _ (by simp; omega)).trans x2')))⟩))
        (fail)
      go_wp2
      exact bodyPost_ret (v := .tuple #[lnP ⟨true, a0, a2, v⟩, .bool true]) (by simp [results, Tryd.results52, go_sem, plVal, lnP, y0, y1, y2, y3]) rfl (post_yes (unhide HN) ((((hbf.setCell (Nat.le_refl _) _).setCell (Nat.le_refl _) _).setCell (Nat.le_refl _) _).setCell (Nat.le_refl _) _).drew)
  · have hcv := conv_drop (w.alloc (.cells #[.int .i64 0, .int .i32 0, .int .i32 0, .int .i64 0] 130)) g (cap - 4) 4 r h1 hlen
    rw [hQ] at hcv
    clear hQ
    have hcap' : 4 < cap := by omega
    go_enter Tryd.func52, Tryd.ntmps52
    go_wp2_with fail
    refine (vertexHead_any _ _ r _ h1 hl).mono ?_
    rintro e w' ⟨rfl, hw⟩
    obtain rfl := hw.symm
    rw [hv]
    go_wp2_with fail
    refine (edgeHead_any _ _ r _ h1 hl).mono ?_
    rintro e w' ⟨rfl, hw⟩
    obtain rfl := hw.symm
    rw [he]
    clear hl
    go_wp2_with fail
    refine (unhide HW).mono ?_
    rintro e w2 ⟨rfl, hb2⟩
    have y0 := hb2.cell (p := ⟨w.heap.size, 0, none⟩) (by simp)
    have y1 := hb2.cell (p := ⟨w.heap.size, 1, none⟩) (by simp)
    have y2 := hb2.cell (p := ⟨w.heap.size, 2, none⟩) (by simp)
    have y3 := hb2.cell (p := ⟨w.heap.size, 3, none⟩) (by simp)
    have v0 := hb2.frozen (p := ⟨w.heap.size, 0, none⟩) (by simp)
    have v1 := hb2.frozen (p := ⟨w.heap.size, 1, none⟩) (by simp)
    have v2 := hb2.frozen (p := ⟨w.heap.size, 2, none⟩) (by simp)
    have v3 := hb2.frozen (p := ⟨w.heap.size, 3, none⟩) (by simp)
    have x0' := (hb2.cell (p := ⟨g, 0, none⟩) (by simp; omega)).trans (far_cell hgl x0)
    have x2' := (hb2.cell (p := ⟨g, 2, none⟩) (by simp; omega)).trans (far_cell hgl x2)
    have hz := hb2.size
    simp at y0 y1 y2 y3 v0 v1 v2 v3 hz
    have hbf := hb.trans (hb2.mono (by simp))
    cases hq : Sp.number Q.data.toList with
    | none =>
      have HN : Hid (Sp.lnOf r = none) := by show _ = _; rw [unhide HL]; unfold Sp.numOf; rw [unhide HQ, hq]; rfl
      rw [numOut_none]
      clear hb2
      have hgne : w.heap.size ≠ g := by omega
      go_wp2_with fail
      go_region_held3 (fun w' => w'.cell? ⟨g, 0, none⟩ = some (.int .i32 a0) ∧ w'.cell? ⟨g, 2, none⟩ = some (.int .i32 a2))
        (first | (go_keep; done) | (go_split_ands; exact ⟨(World.cell?_setCell_other _ _ _ _ (by simp; omega)).trans ((World.cell?_setCell_other _ _ _ _ (by simp; omega)).trans ((World.cell?_setCell_other _ _ _ _ (by simp; omega)).trans ((World.cell?_setCell_other _ _ _ _ (by simp; omega)).trans x0'))), (World.cell?_setCell_other _ _ _ _ (by simp; omega)).trans ((World.cell?_setCell_other _ _ _ _ (by simp; omega)).trans ((World.cell?_setCell_other _ _ _ _ (by simp; omega)).trans ((World.cell?_setCell_other _ _ _ _ (by simp; omega)).trans x2')))⟩))
        (fail)
      go_wp2
      exact bodyPost_ret (v := .tuple #[plVal 2 a0 a2 0, .bool false]) (by simp [results, Tryd.results52, go_sem, plVal, y0, y1, y2, y3]) rfl (post_no hne (unhide HN) ((((hbf.setCell (Nat.le_refl _) _).setCell (Nat.le_refl _) _).setCell (Nat.le_refl _) _).setCell (Nat.le_refl _) _).drew)
    | some v =>
      have HN : Hid (Sp.lnOf r = some ⟨true, a0, a2, v⟩) := by show _ = _; rw [unhide HL]; unfold Sp.numOf; rw [unhide HQ, hq]; rfl
      rw [numOut_some]
      clear hb2
      have hgne : w.heap.size ≠ g := by omega
      go_wp2_with fail
      go_region_held3 (fun w' => w'.cell? ⟨g, 0, none⟩ = some (.int .i32 a0) ∧ w'.cell? ⟨g, 2, none⟩ = some (.int .i32 a2))
        (first | (go_keep; done) | (go_split_ands; exact ⟨(World.cell?_setCell_other _ _ _ _ (by simp; omega)).trans ((World.cell?_setCell_other _ _ _ _ (by simp; omega)).trans ((World.cell?_setCell_other _ _ _ _ (by simp; omega)).trans ((World.cell?_setCell_other _ _ _ _ (by simp; omega)).trans x0'))), (World.cell?_setCell_other _ _ _ _ (by simp; omega)).trans ((World.cell?_setCell_other _ _ _ _ (by simp; omega)).trans ((World.cell?_setCell_other _ _ _ _ (by simp; omega)).trans ((World.cell?_setCell_other _ _ _ _ (by simp; omega)).trans x2')))⟩))
        (fail)
      go_wp2
      exact bodyPost_ret (v := .tuple #[lnP ⟨true, a0, a2, v⟩, .bool true]) (by simp [results, Tryd.results52, go_sem, plVal, lnP, y0, y1, y2, y3]) rfl (post_yes (unhide HN) ((((hbf.setCell (Nat.le_refl _) _).setCell (Nat.le_refl _) _).setCell (Nat.le_refl _) _).setCell (Nat.le_refl _) _).drew)
end Go.Proofs.YteflnddphpjahaaDoor
/-
  The program's lines: readLine at any runes.
-/
set_option linter.unusedVariables false
set_option linter.unusedSimpArgs false
set_option maxRecDepth 100000
namespace Go.Proofs.YteflnddphpjahaaDoor
open Go.RowKit

theorem bytes_drop (r : List Int) : ∀ n, (runesBytes (r.drop n)).size ≤ (runesBytes r).size := by
  induction r with
  | nil => intro n; simp
  | cons a t ih =>
    intro n
    cases n with
    | zero => simp
    | succ n =>
      have h1 := ih n
      have h2 := congrArg List.length (Sp.bytes_cons a t)
      simp at h2 ⊢
      omega

theorem readLine_any (p : Option Addr) (cap : Nat) (r : List Int) (w : World) (h : IntsAt w .i32 p r) (hl : r.length ≤ 5000) (hc : r.length ≤ cap) (hcm : cap ≤ maxLen) (hsz : (runesBytes r).size ≤ 4000) (hbd : ∀ y ∈ r, 0 ≤ y ∧ y ≤ 1114111) :
    Calls Tryd.prog 52 #[.slice p r.length cap] w (LinePost r w) := by
  cases r with
  | nil => exact readLine_empty p cap w
  | cons a t =>
    obtain ⟨g, rfl, _⟩ := ints_get h 0 (by simp)
    cases hv : vhB (a :: t) with
    | true => exact readLine_v g cap _ w h hl hc hcm hv (Nat.le_trans (bytes_drop _ _) hsz) hbd
    | false =>
      cases he : ehB (a :: t) with
      | true => exact readLine_e g cap _ w h hl hc hcm hv he (Nat.le_trans (bytes_drop _ _) hsz) hbd
      | false => exact readLine_no _ cap _ w h hl (by simp) hv he
end Go.Proofs.YteflnddphpjahaaDoor
