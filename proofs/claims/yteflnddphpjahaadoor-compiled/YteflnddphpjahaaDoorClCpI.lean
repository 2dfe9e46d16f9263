import Derived.Test.YteflnddphpjahaaDoorClCpH
import Derived.Test.YteflnddphpjahaaDoorClPlAtoPlI
/-
  Plain facts for Compile: code that is formed; words of a line; the document's answer.
-/
set_option linter.unusedVariables false
set_option linter.unusedSimpArgs false
set_option maxRecDepth 100000
namespace Go.Proofs.YteflnddphpjahaaDoor
open Go.RowKit

namespace Sp
def sumD : List (List UInt8) → Int
  | [] => 0
  | x :: r => ds x + sumD r
theorem fmd_sum {wt : Bool} : ∀ (R : List (List UInt8)) (d : Int), fmd wt R d = true → sumD R + d = 0 := by
  intro R
  induction R with
  | nil => intro d h; simp only [fmd, decide_eq_true_eq] at h; simp [sumD, h]
  | cons x r ih =>
    intro d h
    simp only [fmd] at h
    split at h
    · cases h
    · have := ih _ h; simp only [sumD]; omega
theorem fmd_suffix {wt : Bool} : ∀ (R : List (List UInt8)) (d : Int), 0 ≤ d → fmd wt R d = true → ∀ k, k ≤ R.length → ∃ d', 0 ≤ d' ∧ fmd wt (R.drop k) d' = true := by
  intro R
  induction R with
  | nil => intro d hd h k hk; simp only [List.length_nil] at hk; exact ⟨d, hd, by rw [show k = 0 by omega]; exact h⟩
  | cons x r ih =>
    intro d hd h k hk
    cases k with
    | zero => exact ⟨d, hd, h⟩
    | succ k =>
      simp only [fmd] at h
      split at h
      · cases h
      · rename_i hc
        exact ih _ (by omega) h k (by simpa using hk)
theorem fmd_word {wt : Bool} {R : List (List UInt8)} {d : Int} (h : fmd wt R d = true) (h0 : 0 < R.length) : tk wt (R[0]'h0) ≠ none := by
  cases R with
  | nil => simp at h0
  | cons x r =>
    simp only [fmd] at h
    split at h
    · cases h
    · rename_i hc; exact fun e => hc (Or.inl e)
theorem clo_ex : ∀ (R : List (List UInt8)) (k : Nat) (d : Int), 0 < d → sumD R + d ≤ 0 → ∃ e, clo R k d = some e := by
  intro R
  induction R with
  | nil => intro k d h1 h2; simp only [sumD] at h2; omega
  | cons x r ih =>
    intro k d h1 h2
    have hb := ds_bd x
    simp only [sumD] at h2
    by_cases c : d + ds x = 0
    · exact ⟨k, by simp only [clo, if_pos c]⟩
    · obtain ⟨e, he⟩ := ih (k + 1) (d + ds x) (by omega) (by omega)
      exact ⟨e, by simp only [clo, if_neg c]; exact he⟩
theorem tk_weight {x : List UInt8} {n m : Nat} (h : tk false x = some (n, m)) : tk true x = some (n, m) := by
  unfold tk at h ⊢
  by_cases c : (number x).isSome = true ∨ x ∈ loadsL ∨ (false = true ∧ x = [119, 101, 105, 103, 104, 116])
  · rw [if_pos c] at h
    have c' : (number x).isSome = true ∨ x ∈ loadsL ∨ (true = true ∧ x = [119, 101, 105, 103, 104, 116]) := by
      rcases c with c | c | c
      · exact Or.inl c
      · exact Or.inr (Or.inl c)
      · cases c.1
    rw [if_pos c']; exact h
  · rw [if_neg c] at h
    by_cases c2 : x = [119, 101, 105, 103, 104, 116]
    · subst c2
      exfalso
      revert h
      rw [if_neg (by decide), if_neg (by decide), if_neg (by decide), if_neg (by decide), if_neg (by decide), if_neg (by decide), if_neg (by decide), if_neg (by decide)]
      intro h; cases h
    · rw [if_neg (fun hc => c (by rcases hc with hc | hc | hc; exact Or.inl hc; exact Or.inr (Or.inl hc); exact absurd hc.2 c2))]
      exact h
theorem spl_no (c : UInt8) : ∀ (l : List UInt8), ∀ y ∈ spl c l, c ∉ y := by
  intro l
  induction l with
  | nil => intro y hy; simp [spl] at hy; subst hy; simp
  | cons b r ih =>
    intro y hy
    simp only [spl] at hy
    split at hy
    · simp only [List.mem_cons] at hy
      rcases hy with rfl | hy
      · simp
      · exact ih y hy
    · rename_i hbc
      obtain ⟨h', t', e⟩ := spl_ne c r
      rw [e] at hy
      simp only [List.mem_cons] at hy
      rcases hy with rfl | hy
      · intro hm
        rcases List.mem_cons.1 hm with hm | hm
        · exact hbc hm.symm
        · exact ih h' (by rw [e]; exact List.mem_cons_self ..) hm
      · exact ih y (by rw [e]; exact List.mem_cons_of_mem _ hy)
/-- The words of a line. -/
def ws (x : ByteArray) : List ByteArray := split x 32
theorem ws_no {x : ByteArray} : ∀ y ∈ ws x, (32 : UInt8) ∉ y.data.toList := by
  intro y hy
  have h := split_spl x 32
  have hm : y.data.toList ∈ (split x (32 : UInt8).toNat).map (·.data.toList) := List.mem_map.2 ⟨y, hy, rfl⟩
  rw [h] at hm
  exact spl_no 32 _ _ hm
theorem cut_size (s : ByteArray) (c : Nat) : ∀ y ∈ split s c, y.size ≤ s.size := cuts_size s c (s.size + 1)
/-- Is a line as it must be? -/
def lineOk (i : Nat) (x : ByteArray) : Bool :=
  decide (((ws x).headD ⟨#[]⟩).data.toList = hd i) && (if 5 ≤ i then decide ((ws x).tail.length = 1) && decide (((ws x).tail.headD ⟨#[]⟩).data.toList ∈ combsL) else fmd (i == 2) ((ws x).tail.map (·.data.toList)) 0 && !(ws x).tail.isEmpty)
def codeOf (s : ByteArray) (i : Nat) : List (List UInt8) := (ws ((split s 10).getD i ⟨#[]⟩)).tail.map (·.data.toList)
/-- What Compile answers: the error, the line. -/
def comp (s : ByteArray) : Int × Int :=
  if 2000 < s.size then (1, 0) else
  match first (fun i => !lineOk i ((split s 10).getD i ⟨#[]⟩)) (min 7 (split s 10).length) with
  | some i => (3, (i : Int))
  | none => if 7 < (split s 10).length then (3, 7) else if (split s 10).length < 7 then (3, ((split s 10).length : Int)) else
    match first (fun i => decide (hgt (codeOf s i) (codeOf s i).length 0 (codeOf s i).length 0 ≠ some 1)) 5 with
    | some i => (7, (i : Int))
    | none => (0, 0)
end Sp

theorem coded_of {X : List ByteArray} {wt : Bool} (hW : Wds X) (hl : X.length ≤ 4000) (h : Sp.fmd wt (lst X) 0 = true) : Coded X := by
  have hall : ∀ k, k < X.length → ∃ n m, Sp.tk true ((lst X).getD k []) = some (n, m) := by
    intro k hk
    obtain ⟨d, hd, hf⟩ := Sp.fmd_suffix (lst X) 0 (by omega) h k (by rw [lst_len]; omega)
    have hk' : k < (lst X).length := by rw [lst_len]; exact hk
    have h1 := Sp.fmd_word hf (by rw [List.length_drop]; omega)
    have e : ((lst X).drop k)[0]'(by rw [List.length_drop]; omega) = (lst X)[k] := by simp
    rw [e] at h1
    rw [List.getD_eq_getElem?_getD, List.getElem?_eq_getElem hk']
    simp only [Option.getD_some]
    cases ht : Sp.tk wt (lst X)[k] with
    | none => exact absurd ht h1
    | some nm =>
      obtain ⟨n, m⟩ := nm
      cases wt with
      | true => exact ⟨n, m, ht⟩
      | false => exact ⟨n, m, Sp.tk_weight ht⟩
  refine ⟨hW, hl, hall, ?_⟩
  intro k hk hb
  have hk' : k < (lst X).length := by rw [lst_len]; exact hk
  obtain ⟨d, hd, hf⟩ := Sp.fmd_suffix (lst X) 0 (by omega) h k (by omega)
  have hs := Sp.fmd_sum _ _ hf
  rw [List.getD_eq_getElem?_getD, List.getElem?_eq_getElem hk'] at hb
  simp only [Option.getD_some] at hb
  rw [List.drop_eq_getElem_cons hk'] at hs ⊢
  have hds : Sp.ds (lst X)[k] = 1 := by rw [hb]; rfl
  simp only [Sp.sumD, hds] at hs
  obtain ⟨e, he⟩ := Sp.clo_ex ((lst X).drop (k + 1)) (k + 1) 1 (by omega) (by omega)
  have hb2 := Sp.clo_bd _ _ _ _ he
  rw [List.length_drop, lst_len] at hb2
  refine ⟨e, ?_, by omega, by omega⟩
  simp only [Sp.clo, hds]
  rw [if_neg (by omega)]
  exact he
end Go.Proofs.YteflnddphpjahaaDoor
