import Derived.Test.YteflnddphpjahaaClStA
import Derived.Test.YteflnddphpjahaaClDkK
import Derived.Test.YteflnddphpjahaaClDkH
/-
  Steady: one act.
-/
set_option linter.unusedVariables false
set_option linter.unusedSimpArgs false
set_option maxRecDepth 100000
namespace Go.Proofs.Yteflnddphpjahaa.Dk
open Go.RowKit

theorem makesG (D : Nat) (L : List Ch) (h : ∀ c ∈ L, okCh c) : Makes D apG lets L := by
  refine ⟨fun T c hc hT => lets_ap hT (h c hc), fun T hT => ⟨hT.1, Nat.le_trans (short_letters hT.1 hT.2) (by omega)⟩, fun T c p hc hp => ?_, fun c hc W C v T h1 h2 => okCh_makes D c (h c hc) W C v T h1 h2⟩
  rcases h c hc with ⟨f, hf, hn, hg⟩ | ⟨hf, hn, hg⟩
  · unfold apG at hp
    rw [hf] at hp
    have hp : p ∈ (if c.gone.size = 0 then Sd.tset T c.name f else Sd.tset (Sd.trem T c.gone) c.name f) := hp
    split at hp
    · rcases Sd.tset_mem hp with e | hp
      · exact Or.inr (by rw [hf, e])
      · exact Or.inl hp
    · rcases Sd.tset_mem hp with e | hp
      · exact Or.inr (by rw [hf, e])
      · exact Or.inl (Sd.trem_mem hp)
  · unfold apG at hp
    rw [hf] at hp
    exact Or.inl (Sd.trem_mem hp)

/-- The names that acts take. -/
theorem act_name (r : Nat) (hr : r < 3) : Letter (((⟨#[97, 98, 99]⟩ : ByteArray).extract r 3).extract 0 1) ∧ ¬ ((⟨#[97, 98, 99]⟩ : ByteArray).extract r 3).extract 0 1 = ⟨#[120]⟩ := by
  match r, hr with
  | 0, _ => exact ⟨⟨by decide, by decide, by decide⟩, by decide⟩
  | 1, _ => exact ⟨⟨by decide, by decide, by decide⟩, by decide⟩
  | 2, _ => exact ⟨⟨by decide, by decide, by decide⟩, by decide⟩

theorem tset_keep {T : Sd.Tb} (hT : Sd.tsorted T) {y : ByteArray} {f : Nat} {p : ByteArray × Nat} (hp : p ∈ T) (hy : ¬ p.1 = y) : p ∈ Sd.tset T y f := by
  unfold Sd.tset
  cases hh : Sd.thas T y with
  | false => exact Sd.tins_mem.2 (Or.inr hp)
  | true =>
    rw [if_pos rfl]
    obtain ⟨hj, e1, _⟩ := Sd.tget_at hT hh
    obtain ⟨j, hj2, rfl⟩ := List.mem_iff_getElem.1 hp
    have hne : Sd.tlow T y ≠ j := fun e => by
      apply hy
      have : T[j] = T[Sd.tlow T y] := by congr 1; exact e.symm
      rw [this]; exact e1
    exact List.mem_iff_getElem.2 ⟨j, by rw [List.length_set]; exact hj2, by rw [List.getElem_set, if_neg hne]⟩
theorem tset_in {T : Sd.Tb} (hT : Sd.tsorted T) (y : ByteArray) (f : Nat) : (y, f) ∈ Sd.tset T y f := by
  unfold Sd.tset
  cases hh : Sd.thas T y with
  | false => exact Sd.tins_mem.2 (Or.inl rfl)
  | true =>
    rw [if_pos rfl]
    obtain ⟨hj, _, _⟩ := Sd.tget_at hT hh
    exact List.mem_iff_getElem.2 ⟨Sd.tlow T y, by rw [List.length_set]; exact hj, by simp⟩
theorem trem_keep {T : Sd.Tb} (hT : Sd.tsorted T) {y : ByteArray} {p : ByteArray × Nat} (hp : p ∈ T) (hy : ¬ p.1 = y) : p ∈ Sd.trem T y := by
  unfold Sd.trem
  cases hh : Sd.thas T y with
  | false => exact hp
  | true =>
    rw [if_pos rfl]
    obtain ⟨hj, e1, _⟩ := Sd.tget_at hT hh
    obtain ⟨j, hj2, rfl⟩ := List.mem_iff_getElem.1 hp
    have hne : j ≠ Sd.tlow T y := fun e => by
      apply hy
      have : T[j] = T[Sd.tlow T y] := by congr 1
      rw [this]; exact e1
    exact List.mem_eraseIdx_iff_getElem.2 ⟨j, hj2, hne, rfl⟩
end Go.Proofs.Yteflnddphpjahaa.Dk
