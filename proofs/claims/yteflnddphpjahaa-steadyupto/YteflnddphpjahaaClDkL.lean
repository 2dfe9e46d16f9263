import Derived.Test.YteflnddphpjahaaClDkC
import Derived.Test.YteflnddphpjahaaClDtI
/-
  A disk's changes: makeIn of a rename, and of a removal.
-/
set_option linter.unusedVariables false
set_option linter.unusedSimpArgs false
set_option maxRecDepth 100000
namespace Go.Proofs.Yteflnddphpjahaa.Dk
open Go.RowKit

theorem TabNew.comp {w w1 w2 : World} {D o : Nat} {C : Array Value} {tD : TypeId} {v v1 v2 : Value} {T1 T2 : Sd.Tb} (h1 : TabNew w w1 D o C tD v v1 T1) (h2 : TabNew w1 w2 D o (C.setIfInBounds o v1) tD v1 v2 T2) : TabNew w w2 D o C tD v v2 T2 := by
  refine ⟨?_, h2.row, ⟨h2.kept.os.trans h1.kept.os, h2.kept.tape.trans h1.kept.tape, h2.kept.output.trans h1.kept.output, Nat.le_trans h1.kept.size h2.kept.size, fun k hk ho => (h2.kept.block k (Nat.lt_of_lt_of_le hk h1.kept.size) ⟨ho.1, fun e => ?_⟩).trans (h1.kept.block k hk ho)⟩, ?_⟩
  · rw [h2.blk]
    have e : (C.setIfInBounds o v1).setIfInBounds o v2 = C.setIfInBounds o v2 := by simp
    rw [e]
  · rcases h1.new with e1 | ⟨g, e1, hg⟩
    · rw [e1] at e; exact ho.2 e
    · rw [e1] at e
      have : g = k := Option.some.inj e
      omega
  · rcases h2.new with e | ⟨g, e, hg⟩
    · rw [e]; exact h1.new
    · exact Or.inr ⟨g, e, Nat.le_trans h1.kept.size hg⟩
theorem TabNew.inside {w w1 : World} {D o : Nat} {C : Array Value} {tD : TypeId} {v v1 : Value} {T1 : Sd.Tb} (h : TabNew w w1 D o C tD v v1 T1) (ho : o < C.size) (hT : Sd.tsorted T1) (hl : T1.length ≤ 100000) : TabIn w1 D o (C.setIfInBounds o v1) tD v1 T1 :=
  ⟨h.blk, by simp [ho], h.row, hT, hl⟩
theorem TabNew.neD {w w1 : World} {D o : Nat} {C : Array Value} {tD : TypeId} {v v1 : Value} {T1 : Sd.Tb} (h : TabNew w w1 D o C tD v v1 T1) (hne : v.ownBlock ≠ some D) (hD : D < w.heap.size) : v1.ownBlock ≠ some D := fun e => by
  rcases h.new with e1 | ⟨g, e1, hg⟩
  · rw [e1] at e; exact hne e
  · rw [e1] at e
    have : g = D := Option.some.inj e
    omega

set_option maxHeartbeats 1000000 in
theorem makeIn_both (D : Nat) (C : Array Value) (tD : TypeId) (v : Value) (T : Sd.Tb) (x y : ByteArray) (f : Nat) (w : World) (h : TabIn w D 1 C tD v T) (hne : v.ownBlock ≠ some D) (hx : (x.toList == []) = false) (hy : (y.toList == []) = false) :
    Calls Try.prog 55 #[.agg #[.string x, .string y, fptr f], .pointer (some ⟨D, 1, none⟩)] w fun e w' => e = .returned (.tuple #[]) ∧ ∃ v', TabNew w w' D 1 C tD v v' (Sd.tset (Sd.trem T x) y f) := by
  have hoC : 1 < C.size := (Array.getElem?_eq_some_iff.1 h.at_).1
  have hrm := fun o => remove_any D 1 C tD v T x (w.alloc o) (h.below ((Below.refl _ w).alloc (Nat.le_refl _) o)) hne
  have hDw : D < w.heap.size := lt_of_block h.blk
  have hvl : ∀ g, v.ownBlock = some g → g < w.heap.size := fun g hg => own_lt h.row hg
  have hT := Sd.trem_sorted h.srt x
  have hl : (Sd.trem T x).length ≤ 100000 := Nat.le_trans (Sd.trem_len T x) h.len
  unfold fptr
  clear h
  go_enter Try.func55, Try.ntmps55
  go_wp2_with fail
  refine (hrm _).mono ?_
  rintro e w1 ⟨rfl, v1, hn⟩
  have hbx : w1.heap[w.heap.size]? = some (.cells #[.string x, .string y, .pointer (some ⟨f, 0, none⟩)] 70 (0, 0)) := by
    refine (hn.kept.block w.heap.size (by simp) ⟨by omega, fun e => ?_⟩).trans (heap_alloc_new w _)
    have := hvl _ e
    omega
  have b1 : w1.cell? ⟨w.heap.size, 1, none⟩ = some (.string y) := by rw [cell_of_row w1 _ 1 _ _ _ hbx]; rfl
  have b2 : w1.cell? ⟨w.heap.size, 2, none⟩ = some (.pointer (some ⟨f, 0, none⟩)) := by rw [cell_of_row w1 _ 2 _ _ _ hbx]; rfl
  have hset := set_any D 1 _ tD v1 (Sd.trem T x) y f w1 (hn.inside hoC hT hl) (hn.neD hne (by simp; omega))
  unfold fptr at hset
  have HN := hide (TabNew.from_alloc hn)
  clear hn hrm hbx
  go_wp2_with fail
  refine hset.mono ?_
  rintro e w2 ⟨rfl, v2, hn2⟩
  have HN2 := hide ((unhide HN).comp hn2)
  clear hset hn2
  go_wp2
  exact bodyPost_end (results_none rfl _ _ _) rfl ⟨rfl, v2, unhide HN2⟩
set_option maxHeartbeats 1000000 in
theorem makeIn_rem (D : Nat) (C : Array Value) (tD : TypeId) (v : Value) (T : Sd.Tb) (x : ByteArray) (w : World) (h : TabIn w D 1 C tD v T) (hne : v.ownBlock ≠ some D) (hx : (x.toList == []) = false) :
    Calls Try.prog 55 #[.agg #[.string x, .string ⟨#[]⟩, .pointer none], .pointer (some ⟨D, 1, none⟩)] w fun e w' => e = .returned (.tuple #[]) ∧ ∃ v', TabNew w w' D 1 C tD v v' (Sd.trem T x) := by
  have hrm := fun o => remove_any D 1 C tD v T x (w.alloc o) (h.below ((Below.refl _ w).alloc (Nat.le_refl _) o)) hne
  have hDw : D < w.heap.size := lt_of_block h.blk
  have hvl : ∀ g, v.ownBlock = some g → g < w.heap.size := fun g hg => own_lt h.row hg
  clear h
  go_enter Try.func55, Try.ntmps55
  go_wp2_with fail
  refine (hrm _).mono ?_
  rintro e w1 ⟨rfl, v1, hn⟩
  have hbx : w1.heap[w.heap.size]? = some (.cells #[.string x, .string ⟨#[]⟩, .pointer none] 70 (0, 0)) := by
    refine (hn.kept.block w.heap.size (by simp) ⟨by omega, fun e => ?_⟩).trans (heap_alloc_new w _)
    have := hvl _ e
    omega
  have b1 : w1.cell? ⟨w.heap.size, 1, none⟩ = some (.string ⟨#[]⟩) := by rw [cell_of_row w1 _ 1 _ _ _ hbx]; rfl
  have HN := hide (TabNew.from_alloc hn)
  clear hn hrm hbx
  go_wp2
  exact bodyPost_end (results_none rfl _ _ _) rfl ⟨rfl, v1, unhide HN⟩

/-- What a change makes of a table: the empty name is none. -/
def apG (T : Sd.Tb) (c : Ch) : Sd.Tb :=
  match c.file with
  | some f => if c.gone.size = 0 then Sd.tset T c.name f else Sd.tset (Sd.trem T c.gone) c.name f
  | none => Sd.trem T c.gone
/-- The three kinds of changes: by Create, Rename, Remove. -/
def okCh (c : Ch) : Prop :=
  (∃ f, c.file = some f ∧ Letter c.name ∧ (c.gone = ⟨#[]⟩ ∨ Letter c.gone)) ∨ (c.file = none ∧ c.name = ⟨#[]⟩ ∧ Letter c.gone)
theorem okCh_makes (D : Nat) (c : Ch) (hc : okCh c) (W : World) (C : Array Value) (v : Value) (T : Sd.Tb) (h : TabIn W D 1 C 59 v T) (hne : v.ownBlock ≠ some D) :
    Calls Try.prog 55 #[.agg #[.string c.gone, .string c.name, optPtr c.file], .pointer (some ⟨D, 1, none⟩)] W fun e w' => e = .returned (.tuple #[]) ∧ ∃ v', TabNew W w' D 1 C 59 v v' (apG T c) := by
  rcases hc with ⟨f, hf, hn, hg⟩ | ⟨hf, hn, hg⟩
  · rcases hg with hg | hg
    · have e : apG T c = Sd.tset T c.name f := by unfold apG; rw [hf, hg]; rfl
      rw [e, hf, hg]
      exact makeIn_set D C _ v T c.name f W h hne (letter_ne hn)
    · have e : apG T c = Sd.tset (Sd.trem T c.gone) c.name f := by
        unfold apG; rw [hf]
        show (if c.gone.size = 0 then _ else _) = _
        rw [if_neg (by rw [hg.one]; omega)]
      rw [e, hf]
      exact makeIn_both D C _ v T c.gone c.name f W h hne (letter_ne hg) (letter_ne hn)
  · have e : apG T c = Sd.trem T c.gone := by unfold apG; rw [hf]
    rw [e, hf, hn]
    exact makeIn_rem D C _ v T c.gone W h hne (letter_ne hg)
end Go.Proofs.Yteflnddphpjahaa.Dk
