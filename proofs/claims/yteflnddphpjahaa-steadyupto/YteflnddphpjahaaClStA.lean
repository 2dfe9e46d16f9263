import Derived.Test.YteflnddphpjahaaClDkO
/-
  Plain facts for Steady: tables whose names are letters are short; what the acts keep.
-/
set_option linter.unusedVariables false
set_option linter.unusedSimpArgs false
set_option maxRecDepth 100000
namespace Go.Proofs.Yteflnddphpjahaa.Dk
open Go.RowKit

theorem letter_list {a : ByteArray} (h : Letter a) : ∃ x : UInt8, a.toList = [x] ∧ x.toNat = Sp.bt a 0 := by
  have h1 := h.one
  have h0 : 0 < a.size := by omega
  refine ⟨a[0], ?_, Sp.bt_of a 0 h0⟩
  rw [ByteArray.toList_eq]
  have hl : a.data.toList.length = 1 := by rw [Array.length_toList]; exact h1
  match hd : a.data.toList, hl with
  | [x], _ =>
    have : a[0] = x := by
      have e : a.data.toList[0]'(by rw [hl]; omega) = x := by simp [hd]
      exact e
    rw [this]
theorem lt_code {a b : ByteArray} (ha : Letter a) (hb : Letter b) (h : Sd.lt a b = true) : Sp.bt a 0 < Sp.bt b 0 := by
  obtain ⟨x, ex, hx⟩ := letter_list ha
  obtain ⟨y, ey, hy⟩ := letter_list hb
  unfold Sd.lt at h
  rw [ex, ey] at h
  have h2 : x < y := by simpa [Op.bytesLess] using h
  rw [← hx, ← hy]
  exact h2
theorem len_letters : ∀ (T : Sd.Tb) (lo : Nat), Sd.tsorted T → (∀ p ∈ T, Letter p.1 ∧ lo ≤ Sp.bt p.1 0) → T.length ≤ 123 - lo := by
  intro T
  induction T with
  | nil => intro lo _ _; simp
  | cons p t ih =>
    intro lo hT hl
    have hp := hl p (List.mem_cons_self ..)
    have h1 := ih (Sp.bt p.1 0 + 1) (List.pairwise_cons.1 hT).2 (fun q hq => by
      have hq1 := hl q (List.mem_cons_of_mem _ hq)
      exact ⟨hq1.1, lt_code hp.1 hq1.1 ((List.pairwise_cons.1 hT).1 q hq)⟩)
    have := hp.1.hi
    have := hp.1.lo
    simp only [List.length_cons]
    omega
theorem short_letters {T : Sd.Tb} (hT : Sd.tsorted T) (h : ∀ p ∈ T, Letter p.1) : T.length ≤ 123 := by
  have := len_letters T 0 hT (fun p hp => ⟨h p hp, Nat.zero_le _⟩)
  omega

/-- All names are letters. -/
def lets (T : Sd.Tb) : Prop := Sd.tsorted T ∧ ∀ p ∈ T, Letter p.1
theorem lets_set {T : Sd.Tb} (h : lets T) {y : ByteArray} (hy : Letter y) (f : Nat) : lets (Sd.tset T y f) :=
  ⟨Sd.tset_sorted h.1 y f, fun p hp => by
    rcases Sd.tset_mem hp with e | hp
    · rw [e]; exact hy
    · exact h.2 p hp⟩
theorem lets_rem {T : Sd.Tb} (h : lets T) (y : ByteArray) : lets (Sd.trem T y) := ⟨Sd.trem_sorted h.1 y, fun p hp => h.2 p (Sd.trem_mem hp)⟩
theorem lets_ap {T : Sd.Tb} (h : lets T) {c : Ch} (hc : okCh c) : lets (apG T c) := by
  rcases hc with ⟨f, hf, hn, hg⟩ | ⟨hf, hn, hg⟩
  · unfold apG
    rw [hf]
    show lets (if c.gone.size = 0 then _ else _)
    split
    · exact lets_set h hn f
    · exact lets_set (lets_rem h _) hn f
  · unfold apG
    rw [hf]
    exact lets_rem h _
end Go.Proofs.Yteflnddphpjahaa.Dk
