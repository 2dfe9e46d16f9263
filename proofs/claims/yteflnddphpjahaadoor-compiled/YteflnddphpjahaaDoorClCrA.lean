import Derived.Test.YteflnddphpjahaaDoorClCpI
import Derived.Test.YteflnddphpjahaaDoorClCqA
/-
  Plain facts for Compile: a dry machine goes once through the words; that tells what the height does.
-/
set_option linter.unusedVariables false
set_option linter.unusedSimpArgs false
set_option maxRecDepth 100000
namespace Go.Proofs.YteflnddphpjahaaDoor.Sp
open Go

/-- What a word does to the height and to the heights behind the open brackets. -/
def dst (x : List UInt8) (h : Nat) (ls : List Nat) : Option (Nat × List Nat) :=
  if x = [91] then (if h = 0 then none else some (h - 1, ls ++ [h - 1]))
  else if x = [93] then (match ls.getLast? with | some m => if h = m then some (h, ls.dropLast) else none | none => none)
  else match tk true x with
    | none => none
    | some (n, m) => if n ≤ h ∧ h - n + m ≤ 16 then some (h - n + m, ls) else none
def drun : List (List UInt8) → Nat → List Nat → Option (Nat × List Nat)
  | [], h, ls => some (h, ls)
  | x :: r, h, ls => match dst x h ls with
    | none => none
    | some (h', ls') => drun r h' ls'
theorem drun_append : ∀ (A B : List (List UInt8)) (h : Nat) (ls : List Nat), drun (A ++ B) h ls = match drun A h ls with
    | none => none
    | some (h', ls') => drun B h' ls' := by
  intro A
  induction A with
  | nil => intro B h ls; rfl
  | cons x r ih =>
    intro B h ls
    simp only [List.cons_append, drun]
    cases dst x h ls with
    | none => rfl
    | some p => exact ih B p.1 p.2
theorem drun_open (r : List (List UInt8)) (h : Nat) (ls : List Nat) : drun ([91] :: r) h ls = if h = 0 then none else drun r (h - 1) (ls ++ [h - 1]) := by
  have e : dst [91] h ls = if h = 0 then none else some (h - 1, ls ++ [h - 1]) := by unfold dst; rw [if_pos rfl]
  rw [drun, e]
  by_cases h0 : h = 0
  · rw [if_pos h0, if_pos h0]
  · rw [if_neg h0, if_neg h0]
theorem drun_shut (r : List (List UInt8)) (h m : Nat) (ls : List Nat) : drun ([93] :: r) h (ls ++ [m]) = if h = m then drun r h ls else none := by
  have e : dst [93] h (ls ++ [m]) = if h = m then some (h, ls) else none := by
    unfold dst
    rw [if_neg (by decide), if_pos rfl]
    simp only [List.getLast?_append, List.getLast?_singleton, Option.some_or, List.dropLast_concat]
  rw [drun, e]
  by_cases h0 : h = m
  · rw [if_pos h0, if_pos h0]
  · rw [if_neg h0, if_neg h0]
theorem ds_none {x : List UInt8} (h1 : x ≠ [91]) (h2 : x ≠ [93]) : ds x = 0 := by unfold ds; rw [if_neg h1, if_neg h2]
theorem fmd_cons {wt : Bool} {x : List UInt8} {r : List (List UInt8)} {d : Int} (h : fmd wt (x :: r) d = true) : tk wt x ≠ none ∧ 0 ≤ d + ds x ∧ fmd wt r (d + ds x) = true := by
  simp only [fmd] at h
  split at h
  · cases h
  · rename_i hc
    exact ⟨fun e => hc (Or.inl e), by omega, h⟩
theorem fmd_mk {wt : Bool} {x : List UInt8} {r : List (List UInt8)} {d : Int} (h1 : tk wt x ≠ none) (h2 : 0 ≤ d + ds x) (h : fmd wt r (d + ds x) = true) : fmd wt (x :: r) d = true := by
  simp only [fmd]
  rw [if_neg (by intro hc; rcases hc with hc | hc; exact h1 hc; omega)]
  exact h
theorem fmd_weight : ∀ (R : List (List UInt8)) (d : Int), fmd false R d = true → fmd true R d = true := by
  intro R
  induction R with
  | nil => intro d h; exact h
  | cons x r ih =>
    intro d h
    obtain ⟨h1, h2, h3⟩ := fmd_cons h
    refine fmd_mk ?_ h2 (ih _ h3)
    cases ht : tk false x with
    | none => exact absurd ht h1
    | some p => rw [tk_weight (n := p.1) (m := p.2) (by rw [ht])]; exact fun e => by cases e
/-- What is open is closed: where. -/
theorem fmd_split : ∀ (R : List (List UInt8)) (d : Int), 0 ≤ d → fmd true R (d + 1) = true →
    ∃ R1 R2, R = R1 ++ [93] :: R2 ∧ fmd true R1 d = true ∧ fmd true R2 0 = true ∧ ∀ k T, clo (R ++ T) k (d + 1) = some (k + R1.length) := by
  intro R
  induction R with
  | nil =>
    intro d hd h
    simp only [fmd, decide_eq_true_eq] at h
    omega
  | cons y r ih =>
    intro d hd h
    obtain ⟨h1, h2, h3⟩ := fmd_cons h
    by_cases hc : d + 1 + ds y = 0
    · have hy : y = [93] := by
        have hb := ds_bd y
        by_cases e1 : y = [91]
        · subst e1; simp [ds] at hc; omega
        · by_cases e2 : y = [93]
          · exact e2
          · rw [ds_none e1 e2] at hc; omega
      have hd0 : d = 0 := by have := ds_bd y; omega
      subst hy hd0
      refine ⟨[], r, rfl, rfl, by rw [hc] at h3; exact h3, fun k T => ?_⟩
      simp only [List.cons_append, clo]
      rw [if_pos hc]; rfl
    · obtain ⟨R1, R2, e, f1, f2, f3⟩ := ih (d + ds y) (by omega) (by rw [show d + ds y + 1 = d + 1 + ds y by omega]; exact h3)
      refine ⟨y :: R1, R2, by rw [e]; rfl, fmd_mk h1 (by omega) f1, f2, fun k T => ?_⟩
      simp only [List.cons_append, clo]
      rw [if_neg hc, show d + 1 + ds y = d + ds y + 1 by omega, f3 (k + 1) T]
      simp only [List.length_cons]
      congr 1; omega
theorem hgt_end (L : List (List UInt8)) (f a h : Nat) : hgt L f a a h = some h := by
  cases f with
  | zero => simp [hgt]
  | succ f => rw [hgt, if_pos (Nat.le_refl _)]
/-- Once through balanced words: the height as the document works it out. -/
theorem drun_hgt (L : List (List UInt8)) : ∀ (N : Nat) (S T : List (List UInt8)) (a h : Nat) (ls : List Nat), S.length ≤ N → L.drop a = S ++ T → a + S.length ≤ L.length → fmd true S 0 = true → h ≤ 16 →
    drun S h ls = match hgt L (L.length - a) a (a + S.length) h with
      | none => none
      | some h' => some (h', ls) := by
  intro N
  induction N with
  | zero =>
    intro S T a h ls hN hL ha hf hh
    have : S = [] := List.eq_nil_of_length_eq_zero (by omega)
    subst this
    rw [List.length_nil, Nat.add_zero, hgt_end]; rfl
  | succ N ih =>
    intro S T a h ls hN hL ha hf hh
    cases S with
    | nil => rw [List.length_nil, Nat.add_zero, hgt_end]; rfl
    | cons x r =>
      obtain ⟨h1, h2, h3⟩ := fmd_cons hf
      have hla : a < L.length := by simp only [List.length_cons] at ha; omega
      have hx : L.getD a [] = x := by
        rw [List.getD_eq_getElem?_getD, List.getElem?_eq_getElem hla]
        have := List.drop_eq_getElem_cons hla
        rw [hL] at this
        simp only [List.cons_append, List.cons.injEq] at this
        simp [this.1]
      have hLr : L.drop (a + 1) = r ++ T := by
        have := List.drop_eq_getElem_cons hla
        rw [hL] at this
        simp only [List.cons_append, List.cons.injEq] at this
        exact this.2.symm
      have hlen : L.length - a = (L.length - (a + 1)) + 1 := by omega
      simp only [List.length_cons] at ha hN ⊢
      rw [hlen, hgt, if_neg (by omega), hx]
      by_cases e1 : x = [91]
      · subst e1
        have htk : tk true [91] = some (1, 0) := by decide
        rw [htk]
        simp only
        have hds : ds [91] = 1 := by decide
        rw [hds] at h3
        obtain ⟨R1, R2, er, f1, f2, f3⟩ := fmd_split r 0 (Int.le_refl _) (by simpa using h3)
        have hclo : clo (L.drop a) a 0 = some (a + 1 + R1.length) := by
          rw [hL]
          simp only [List.cons_append, clo, hds]
          rw [if_neg (by omega)]
          exact f3 (a + 1) T
        rw [drun_open]
        by_cases h0 : h = 0
        · rw [if_pos h0, if_pos (by omega)]
        · rw [if_neg h0, if_neg (by omega), if_pos trivial, hclo]
          simp only
          have hrl : r.length = R1.length + (R2.length + 1) := by rw [er]; simp
          have i1 := ih R1 ([93] :: R2 ++ T) (a + 1) (h - 1) (ls ++ [h - 1]) (by omega) (by rw [hLr, er]; simp) (by omega) f1 (by omega)
          have hL2 : L.drop (a + 1 + R1.length + 1) = R2 ++ T := by
            rw [Nat.add_assoc (a + 1), ← List.drop_drop, hLr, er]
            rw [show R1 ++ [93] :: R2 ++ T = (R1 ++ [[93]]) ++ (R2 ++ T) by simp]
            exact List.drop_left' (by simp)
          have i2 := ih R2 T (a + 1 + R1.length + 1) (h - 1) ls (by omega) hL2 (by omega) f2 (by omega)
          rw [er, drun_append, i1]
          have eb : a + (R1 ++ [93] :: R2).length + 1 = a + 1 + R1.length + 1 + R2.length := by simp; omega
          have ef : L.length - (a + 1) - (a + 1 + R1.length - a) = L.length - (a + 1 + R1.length + 1) := by omega
          simp only [Nat.add_zero]
          cases hg : hgt L (L.length - (a + 1)) (a + 1) (a + 1 + R1.length) (h - 1) with
          | none => simp only; rw [if_neg (by intro e; cases e)]
          | some h' =>
            simp only
            rw [drun_shut]
            by_cases hq : h' = h - 1
            · subst hq
              rw [if_pos rfl, if_pos rfl, i2, ef]
              have : a + ((R1 ++ [93] :: R2).length + 1) = a + 1 + R1.length + 1 + R2.length := by simp; omega
              rw [this]
            · rw [if_neg hq, if_neg (by intro e; injection e with e; exact hq e)]
      · have e2 : x ≠ [93] := by
          rintro rfl
          have : ds [93] = -1 := by decide
          omega
        have hds := ds_none e1 e2
        rw [hds] at h3
        cases ht : tk true x with
        | none => exact absurd ht h1
        | some p =>
          obtain ⟨n, m⟩ := p
          simp only [drun, dst]
          rw [if_neg e1, if_neg e2, ht]
          simp only
          by_cases hq : n ≤ h ∧ h - n + m ≤ 16
          · rw [if_pos hq, if_neg (by omega), if_neg e1]
            simp only
            have := ih r T (a + 1) (h - n + m) ls (by omega) hLr (by omega) (by simpa using h3) (by omega)
            rw [this, show a + 1 + r.length = a + (r.length + 1) by omega]
          · rw [if_neg hq, if_pos (by omega)]
/-- Code keeps to the stack. -/
def keeps (C : List (List UInt8)) : Bool := decide (hgt C C.length 0 C.length 0 = some 1)
theorem keeps_drun {C : List (List UInt8)} (hf : fmd true C 0 = true) : (keeps C = true ∧ drun C 0 [] = some (1, [])) ∨ (keeps C = false ∧ (drun C 0 [] = none ∨ ∃ h, h ≠ 1 ∧ drun C 0 [] = some (h, []))) := by
  have h := drun_hgt C C.length C [] 0 0 [] (Nat.le_refl _) (by simp) (by omega) hf (by omega)
  rw [Nat.sub_zero, Nat.zero_add] at h
  unfold keeps
  cases hg : hgt C C.length 0 C.length 0 with
  | none => rw [hg] at h; exact Or.inr ⟨by decide, Or.inl h⟩
  | some h' =>
    rw [hg] at h
    by_cases e : h' = 1
    · subst e; exact Or.inl ⟨by decide, h⟩
    · exact Or.inr ⟨decide_eq_false (fun he => e (by injection he)), Or.inr ⟨h', e, h⟩⟩
/-- What the words take and put, in the table's order. -/
def wtk : List (Nat × Nat) := [(0, 1), (0, 1), (0, 1), (0, 1), (0, 1), (0, 1), (0, 1), (0, 1), (0, 1), (2, 1), (2, 1), (2, 1), (2, 1), (2, 1), (2, 1), (2, 1), (2, 1), (2, 1), (1, 2), (1, 0), (2, 2), (2, 3), (3, 1), (1, 0), (0, 0)]
theorem tk_num {wt : Bool} {x : List UInt8} {n : Int} (h : number x = some n) : tk wt x = some (0, 1) := by
  unfold tk; rw [if_pos (Or.inl (by rw [h]; rfl))]
theorem tk_true : ∀ k, k < 25 → tk true (nms[k]!) = some (wtk[k]!) := by decide
theorem tk_false : ∀ k, k < 25 → tk false (nms[k]!) = if k = 8 then none else some (wtk[k]!) := by decide
theorem tk_none {wt : Bool} {x : List UInt8} (h : number x = none) (hx : ∀ k, k < 25 → nms[k]! ≠ x) : tk wt x = none := by
  have e : ∀ y ∈ nms, y ≠ x := by
    intro y hy
    obtain ⟨k, hk, rfl⟩ := List.mem_iff_getElem.1 hy
    have h25 : nms.length = 25 := rfl
    have := hx k (by omega)
    rwa [getElem!_pos nms k hk] at this
  have e1 : x ∉ loadsL := fun hm => e x ((by decide : ∀ y ∈ loadsL, y ∈ nms) x hm) rfl
  have e2 : x ∉ twosL := fun hm => e x ((by decide : ∀ y ∈ twosL, y ∈ nms) x hm) rfl
  have f : ∀ y, y ∈ nms → x ≠ y := fun y hy he => e y hy he.symm
  unfold tk
  rw [if_neg (by rintro (hc | hc | hc); · rw [h] at hc; cases hc
                 · exact e1 hc
                 · exact f _ (by decide) hc.2), if_neg e2, if_neg (f _ (by decide)), if_neg (f _ (by decide)), if_neg (f _ (by decide)), if_neg (f _ (by decide)), if_neg (f _ (by decide)), if_neg (f _ (by decide)), if_neg (f _ (by decide))]
theorem num_nms : ∀ k, k < 25 → number (nms[k]!) = none := by decide
end Go.Proofs.YteflnddphpjahaaDoor.Sp
