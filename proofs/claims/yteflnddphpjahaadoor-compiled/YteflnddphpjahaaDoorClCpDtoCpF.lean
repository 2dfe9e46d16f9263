import Derived.Test.YteflnddphpjahaaDoorClCpAtoCpC
import Derived.Deep.DeepCutAuto
/-
  strideref.takes.
-/
set_option linter.unusedVariables false
set_option linter.unusedSimpArgs false
set_option maxRecDepth 100000
namespace Go.Proofs.YteflnddphpjahaaDoor
open Go.RowKit

def tkOut : Option (Nat × Nat) → Value
  | none => .tuple #[.int .i64 0, .int .i64 0, .bool false]
  | some (n, m) => .tuple #[.int .i64 (n : Int), .int .i64 (m : Int), .bool true]

open Classical in
set_option maxHeartbeats 2000000 in
theorem takes_any (x : ByteArray) (wt : Bool) (w : World) (hx : x.size ≤ 4000) (h32 : (32 : UInt8) ∉ x.data.toList) : Calls Tryd.prog 49 #[.string x, .bool wt] w fun e w' => e = .returned (tkOut (Sp.tk wt x.data.toList)) ∧ w' = w := by
  obtain ⟨v, HV⟩ : ∃ v, Hid (Sp.number x.data.toList = v) := ⟨_, rfl⟩
  obtain ⟨lb, HLB⟩ : ∃ b : Bool, Hid (b = decide (x.data.toList ∈ Sp.loadsL)) := ⟨_, rfl⟩
  obtain ⟨tb, HTB⟩ : ∃ b : Bool, Hid (b = decide (x.data.toList ∈ Sp.twosL)) := ⟨_, rfl⟩
  have H1 : Hid (Calls Tryd.prog 62 #[.string x] w fun e w' => e = .returned (.tuple #[.int .i64 (v.getD 0), .bool v.isSome]) ∧ w' = w) := by
    have h := number_any x w hx
    rw [unhide HV] at h
    exact h
  have H2 : Hid (Calls Tryd.prog 33 #[.string ⟨#[32, 118, 97, 108, 117, 101, 32, 111, 108, 100, 32, 105, 110, 32, 103, 111, 116, 32, 115, 116, 101, 112, 32, 105, 100, 32, 100, 101, 103, 32, 97, 108, 108, 32]⟩, .string x] w fun e w' => e = .returned (.bool lb) ∧ w' = w) := by
    have h := in_any ⟨#[32, 118, 97, 108, 117, 101, 32, 111, 108, 100, 32, 105, 110, 32, 103, 111, 116, 32, 115, 116, 101, 112, 32, 105, 100, 32, 100, 101, 103, 32, 97, 108, 108, 32]⟩ x w (by decide) hx
    rw [decide_eq_decide.2 (Sp.in_loads h32), ← unhide HLB] at h
    exact h
  have H3 : Hid (Calls Tryd.prog 33 #[.string ⟨#[32, 43, 32, 45, 32, 42, 32, 47, 32, 37, 32, 60, 32, 61, 32, 109, 105, 110, 32, 109, 97, 120, 32]⟩, .string x] w fun e w' => e = .returned (.bool tb) ∧ w' = w) := by
    have h := in_any ⟨#[32, 43, 32, 45, 32, 42, 32, 47, 32, 37, 32, 60, 32, 61, 32, 109, 105, 110, 32, 109, 97, 120, 32]⟩ x w (by decide) hx
    rw [decide_eq_decide.2 (Sp.in_twos h32), ← unhide HTB] at h
    exact h
  have hyes : ∀ {c : Prop} [Decidable c] {b : Bool}, b = decide c → b = true → c := fun h1 h2 => of_decide_eq_true (h1.symm.trans h2)
  go_enter Tryd.func49, Tryd.ntmps49
  go_wp2_with fail
  refine (unhide H1).mono ?_
  rintro e w1 ⟨rfl, hw1⟩
  obtain rfl := hw1.symm
  clear hw1
  go_wp2_with fail
  refine (unhide H2).mono ?_
  rintro e w2 ⟨rfl, hw2⟩
  obtain rfl := hw2.symm
  clear hw2
  go_wp2_with fail
  refine (unhide H3).mono ?_
  rintro e w3 ⟨rfl, hw3⟩
  obtain rfl := hw3.symm
  clear hw3
  cases v with
  | some n =>
    have HE : Hid (Sp.tk wt x.data.toList = some (0, 1)) := by show _ = _; unfold Sp.tk; rw [if_pos (Or.inl (by rw [unhide HV]; rfl))]
    go_wp2
    refine bodyPost_ret (v := tkOut (some (0, 1))) (by simp [results, Tryd.results49, go_sem, tkOut]) rfl ?_
    exact ⟨by rw [unhide HE], rfl⟩
  | none =>
  cases lb with
  | true =>
    have h1 : x.data.toList ∈ Sp.loadsL := hyes (unhide HLB) rfl
    have HE : Hid (Sp.tk wt x.data.toList = some (0, 1)) := by show _ = _; unfold Sp.tk; rw [if_pos (Or.inr (Or.inl h1))]
    go_wp2
    refine bodyPost_ret (v := tkOut (some (0, 1))) (by simp [results, Tryd.results49, go_sem, tkOut]) rfl ?_
    exact ⟨by rw [unhide HE], rfl⟩
  | false =>
  have hl : ¬ x.data.toList ∈ Sp.loadsL := of_decide_eq_false (unhide HLB).symm
  have HL := hide hl
  clear hl
  cases wt with
  | true =>
    by_cases c0 : x.data.toList = [119, 101, 105, 103, 104, 116]
    · have g0 : (x.toList == [119, 101, 105, 103, 104, 116]) = true := toList_is c0
      have HE : Hid (Sp.tk true x.data.toList = some (0, 1)) := by show _ = _; unfold Sp.tk; rw [if_pos (Or.inr (Or.inr ⟨rfl, c0⟩))]
      go_wp2
      refine bodyPost_ret (v := tkOut (some (0, 1))) (by simp [results, Tryd.results49, go_sem, tkOut]) rfl ?_
      exact ⟨by rw [unhide HE], rfl⟩
    have g0 : (x.toList == [119, 101, 105, 103, 104, 116]) = false := toList_ne c0
    have HC0 := hide c0
    clear c0
    have hn0 : ¬ ((Sp.number x.data.toList).isSome = true ∨ x.data.toList ∈ Sp.loadsL ∨ (true = true ∧ x.data.toList = [119, 101, 105, 103, 104, 116])) := by rw [unhide HV]; exact fun h => h.elim (fun h => by cases h) (fun h => h.elim (fun h => unhide HL h) (fun h => unhide HC0 h.2))
    have HN0 := hide hn0
    clear hn0
    cases tb with
    | true =>
      have h2 : x.data.toList ∈ Sp.twosL := hyes (unhide HTB) rfl
      have HE : Hid (Sp.tk true x.data.toList = some (2, 1)) := by show _ = _; unfold Sp.tk; rw [if_neg (unhide HN0), if_pos h2]
      go_wp2
      refine bodyPost_ret (v := tkOut (some (2, 1))) (by simp [results, Tryd.results49, go_sem, tkOut]) rfl ?_
      exact ⟨by rw [unhide HE], rfl⟩
    | false =>
      have HN1 : Hid (¬ x.data.toList ∈ Sp.twosL) := of_decide_eq_false (unhide HTB).symm
      by_cases c2 : x.data.toList = [100, 117, 112]
      · have g2 : (x.toList == [100, 117, 112]) = true := toList_is c2
        have HE : Hid (Sp.tk true x.data.toList = some (1, 2)) := by show _ = _; unfold Sp.tk; rw [if_neg (unhide HN0), if_neg (unhide HN1), if_pos c2]
        go_wp2
        refine bodyPost_ret (v := tkOut (some (1, 2))) (by simp [results, Tryd.results49, go_sem, tkOut]) rfl ?_
        exact ⟨by rw [unhide HE], rfl⟩
      have g2 : (x.toList == [100, 117, 112]) = false := toList_ne c2
      have HN2 := hide c2
      clear c2
      by_cases c3 : x.data.toList = [100, 114, 111, 112]
      · have g3 : (x.toList == [100, 114, 111, 112]) = true := toList_is c3
        have HE : Hid (Sp.tk true x.data.toList = some (1, 0)) := by show _ = _; unfold Sp.tk; rw [if_neg (unhide HN0), if_neg (unhide HN1), if_neg (unhide HN2), if_pos c3]
        go_wp2
        refine bodyPost_ret (v := tkOut (some (1, 0))) (by simp [results, Tryd.results49, go_sem, tkOut]) rfl ?_
        exact ⟨by rw [unhide HE], rfl⟩
      have g3 : (x.toList == [100, 114, 111, 112]) = false := toList_ne c3
      have HN3 := hide c3
      clear c3
      by_cases c4 : x.data.toList = [91]
      · have g4 : (x.toList == [91]) = true := toList_is c4
        have HE : Hid (Sp.tk true x.data.toList = some (1, 0)) := by show _ = _; unfold Sp.tk; rw [if_neg (unhide HN0), if_neg (unhide HN1), if_neg (unhide HN2), if_neg (unhide HN3), if_pos c4]
        go_wp2
        refine bodyPost_ret (v := tkOut (some (1, 0))) (by simp [results, Tryd.results49, go_sem, tkOut]) rfl ?_
        exact ⟨by rw [unhide HE], rfl⟩
      have g4 : (x.toList == [91]) = false := toList_ne c4
      have HN4 := hide c4
      clear c4
      by_cases c5 : x.data.toList = [115, 119, 97, 112]
      · have g5 : (x.toList == [115, 119, 97, 112]) = true := toList_is c5
        have HE : Hid (Sp.tk true x.data.toList = some (2, 2)) := by show _ = _; unfold Sp.tk; rw [if_neg (unhide HN0), if_neg (unhide HN1), if_neg (unhide HN2), if_neg (unhide HN3), if_neg (unhide HN4), if_pos c5]
        go_wp2
        refine bodyPost_ret (v := tkOut (some (2, 2))) (by simp [results, Tryd.results49, go_sem, tkOut]) rfl ?_
        exact ⟨by rw [unhide HE], rfl⟩
      have g5 : (x.toList == [115, 119, 97, 112]) = false := toList_ne c5
      have HN5 := hide c5
      clear c5
      by_cases c6 : x.data.toList = [111, 118, 101, 114]
      · have g6 : (x.toList == [111, 118, 101, 114]) = true := toList_is c6
        have HE : Hid (Sp.tk true x.data.toList = some (2, 3)) := by show _ = _; unfold Sp.tk; rw [if_neg (unhide HN0), if_neg (unhide HN1), if_neg (unhide HN2), if_neg (unhide HN3), if_neg (unhide HN4), if_neg (unhide HN5), if_pos c6]
        go_wp2
        refine bodyPost_ret (v := tkOut (some (2, 3))) (by simp [results, Tryd.results49, go_sem, tkOut]) rfl ?_
        exact ⟨by rw [unhide HE], rfl⟩
      have g6 : (x.toList == [111, 118, 101, 114]) = false := toList_ne c6
      have HN6 := hide c6
      clear c6
      by_cases c7 : x.data.toList = [63]
      · have g7 : (x.toList == [63]) = true := toList_is c7
        have HE : Hid (Sp.tk true x.data.toList = some (3, 1)) := by show _ = _; unfold Sp.tk; rw [if_neg (unhide HN0), if_neg (unhide HN1), if_neg (unhide HN2), if_neg (unhide HN3), if_neg (unhide HN4), if_neg (unhide HN5), if_neg (unhide HN6), if_pos c7]
        go_wp2
        refine bodyPost_ret (v := tkOut (some (3, 1))) (by simp [results, Tryd.results49, go_sem, tkOut]) rfl ?_
        exact ⟨by rw [unhide HE], rfl⟩
      have g7 : (x.toList == [63]) = false := toList_ne c7
      have HN7 := hide c7
      clear c7
      by_cases c8 : x.data.toList = [93]
      · have g8 : (x.toList == [93]) = true := toList_is c8
        have HE : Hid (Sp.tk true x.data.toList = some (0, 0)) := by show _ = _; unfold Sp.tk; rw [if_neg (unhide HN0), if_neg (unhide HN1), if_neg (unhide HN2), if_neg (unhide HN3), if_neg (unhide HN4), if_neg (unhide HN5), if_neg (unhide HN6), if_neg (unhide HN7), if_pos c8]
        go_wp2
        refine bodyPost_ret (v := tkOut (some (0, 0))) (by simp [results, Tryd.results49, go_sem, tkOut]) rfl ?_
        exact ⟨by rw [unhide HE], rfl⟩
      have g8 : (x.toList == [93]) = false := toList_ne c8
      have HN8 := hide c8
      clear c8
      have HE : Hid (Sp.tk true x.data.toList = none) := by show _ = _; unfold Sp.tk; rw [if_neg (unhide HN0), if_neg (unhide HN1), if_neg (unhide HN2), if_neg (unhide HN3), if_neg (unhide HN4), if_neg (unhide HN5), if_neg (unhide HN6), if_neg (unhide HN7), if_neg (unhide HN8)]
      go_wp2
      refine bodyPost_ret (v := tkOut (none)) (by simp [results, Tryd.results49, go_sem, tkOut]) rfl ?_
      exact ⟨by rw [unhide HE], rfl⟩
  | false =>
    have hn0 : ¬ ((Sp.number x.data.toList).isSome = true ∨ x.data.toList ∈ Sp.loadsL ∨ (false = true ∧ x.data.toList = [119, 101, 105, 103, 104, 116])) := by rw [unhide HV]; exact fun h => h.elim (fun h => by cases h) (fun h => h.elim (fun h => unhide HL h) (fun h => by cases h.1))
    have HN0 := hide hn0
    clear hn0
    cases tb with
    | true =>
      have h2 : x.data.toList ∈ Sp.twosL := hyes (unhide HTB) rfl
      have HE : Hid (Sp.tk false x.data.toList = some (2, 1)) := by show _ = _; unfold Sp.tk; rw [if_neg (unhide HN0), if_pos h2]
      go_wp2
      refine bodyPost_ret (v := tkOut (some (2, 1))) (by simp [results, Tryd.results49, go_sem, tkOut]) rfl ?_
      exact ⟨by rw [unhide HE], rfl⟩
    | false =>
      have HN1 : Hid (¬ x.data.toList ∈ Sp.twosL) := of_decide_eq_false (unhide HTB).symm
      by_cases c2 : x.data.toList = [100, 117, 112]
      · have g2 : (x.toList == [100, 117, 112]) = true := toList_is c2
        have HE : Hid (Sp.tk false x.data.toList = some (1, 2)) := by show _ = _; unfold Sp.tk; rw [if_neg (unhide HN0), if_neg (unhide HN1), if_pos c2]
        go_wp2
        refine bodyPost_ret (v := tkOut (some (1, 2))) (by simp [results, Tryd.results49, go_sem, tkOut]) rfl ?_
        exact ⟨by rw [unhide HE], rfl⟩
      have g2 : (x.toList == [100, 117, 112]) = false := toList_ne c2
      have HN2 := hide c2
      clear c2
      by_cases c3 : x.data.toList = [100, 114, 111, 112]
      · have g3 : (x.toList == [100, 114, 111, 112]) = true := toList_is c3
        have HE : Hid (Sp.tk false x.data.toList = some (1, 0)) := by show _ = _; unfold Sp.tk; rw [if_neg (unhide HN0), if_neg (unhide HN1), if_neg (unhide HN2), if_pos c3]
        go_wp2
        refine bodyPost_ret (v := tkOut (some (1, 0))) (by simp [results, Tryd.results49, go_sem, tkOut]) rfl ?_
        exact ⟨by rw [unhide HE], rfl⟩
      have g3 : (x.toList == [100, 114, 111, 112]) = false := toList_ne c3
      have HN3 := hide c3
      clear c3
      by_cases c4 : x.data.toList = [91]
      · have g4 : (x.toList == [91]) = true := toList_is c4
        have HE : Hid (Sp.tk false x.data.toList = some (1, 0)) := by show _ = _; unfold Sp.tk; rw [if_neg (unhide HN0), if_neg (unhide HN1), if_neg (unhide HN2), if_neg (unhide HN3), if_pos c4]
        go_wp2
        refine bodyPost_ret (v := tkOut (some (1, 0))) (by simp [results, Tryd.results49, go_sem, tkOut]) rfl ?_
        exact ⟨by rw [unhide HE], rfl⟩
      have g4 : (x.toList == [91]) = false := toList_ne c4
      have HN4 := hide c4
      clear c4
      by_cases c5 : x.data.toList = [115, 119, 97, 112]
      · have g5 : (x.toList == [115, 119, 97, 112]) = true := toList_is c5
        have HE : Hid (Sp.tk false x.data.toList = some (2, 2)) := by show _ = _; unfold Sp.tk; rw [if_neg (unhide HN0), if_neg (unhide HN1), if_neg (unhide HN2), if_neg (unhide HN3), if_neg (unhide HN4), if_pos c5]
        go_wp2
        refine bodyPost_ret (v := tkOut (some (2, 2))) (by simp [results, Tryd.results49, go_sem, tkOut]) rfl ?_
        exact ⟨by rw [unhide HE], rfl⟩
      have g5 : (x.toList == [115, 119, 97, 112]) = false := toList_ne c5
      have HN5 := hide c5
      clear c5
      by_cases c6 : x.data.toList = [111, 118, 101, 114]
      · have g6 : (x.toList == [111, 118, 101, 114]) = true := toList_is c6
        have HE : Hid (Sp.tk false x.data.toList = some (2, 3)) := by show _ = _; unfold Sp.tk; rw [if_neg (unhide HN0), if_neg (unhide HN1), if_neg (unhide HN2), if_neg (unhide HN3), if_neg (unhide HN4), if_neg (unhide HN5), if_pos c6]
        go_wp2
        refine bodyPost_ret (v := tkOut (some (2, 3))) (by simp [results, Tryd.results49, go_sem, tkOut]) rfl ?_
        exact ⟨by rw [unhide HE], rfl⟩
      have g6 : (x.toList == [111, 118, 101, 114]) = false := toList_ne c6
      have HN6 := hide c6
      clear c6
      by_cases c7 : x.data.toList = [63]
      · have g7 : (x.toList == [63]) = true := toList_is c7
        have HE : Hid (Sp.tk false x.data.toList = some (3, 1)) := by show _ = _; unfold Sp.tk; rw [if_neg (unhide HN0), if_neg (unhide HN1), if_neg (unhide HN2), if_neg (unhide HN3), if_neg (unhide HN4), if_neg (unhide HN5), if_neg (unhide HN6), if_pos c7]
        go_wp2
        refine bodyPost_ret (v := tkOut (some (3, 1))) (by simp [results, Tryd.results49, go_sem, tkOut]) rfl ?_
        exact ⟨by rw [unhide HE], rfl⟩
      have g7 : (x.toList == [63]) = false := toList_ne c7
      have HN7 := hide c7
      clear c7
      by_cases c8 : x.data.toList = [93]
      · have g8 : (x.toList == [93]) = true := toList_is c8
        have HE : Hid (Sp.tk false x.data.toList = some (0, 0)) := by show _ = _; unfold Sp.tk; rw [if_neg (unhide HN0), if_neg (unhide HN1), if_neg (unhide HN2), if_neg (unhide HN3), if_neg (unhide HN4), if_neg (unhide HN5), if_neg (unhide HN6), if_neg (unhide HN7), if_pos c8]
        go_wp2
        refine bodyPost_ret (v := tkOut (some (0, 0))) (by simp [results, Tryd.results49, go_sem, tkOut]) rfl ?_
        exact ⟨by rw [unhide HE], rfl⟩
      have g8 : (x.toList == [93]) = false := toList_ne c8
      have HN8 := hide c8
      clear c8
      have HE : Hid (Sp.tk false x.data.toList = none) := by show _ = _; unfold Sp.tk; rw [if_neg (unhide HN0), if_neg (unhide HN1), if_neg (unhide HN2), if_neg (unhide HN3), if_neg (unhide HN4), if_neg (unhide HN5), if_neg (unhide HN6), if_neg (unhide HN7), if_neg (unhide HN8)]
      go_wp2
      refine bodyPost_ret (v := tkOut (none)) (by simp [results, Tryd.results49, go_sem, tkOut]) rfl ?_
      exact ⟨by rw [unhide HE], rfl⟩
end Go.Proofs.YteflnddphpjahaaDoor
/-
  strideref.closes, strideref.formed.
-/
set_option linter.unusedVariables false
set_option linter.unusedSimpArgs false
set_option maxRecDepth 100000
namespace Go.Proofs.YteflnddphpjahaaDoor
open Go.RowKit

namespace Sp
/-- How much deeper a word leads. -/
def ds (x : List UInt8) : Int := if x = [91] then 1 else if x = [93] then -1 else 0
/-- Where what was opened is closed. -/
def clo : List (List UInt8) → Nat → Int → Option Nat
  | [], _, _ => none
  | x :: r, k, d => if d + ds x = 0 then some k else clo r (k + 1) (d + ds x)
def cloI : Option Nat → Int
  | some k => (k : Int)
  | none => -1
def fmd (wt : Bool) : List (List UInt8) → Int → Bool
  | [], d => decide (d = 0)
  | x :: r, d => if tk wt x = none ∨ d + ds x < 0 then false else fmd wt r (d + ds x)
theorem ds_bd (x : List UInt8) : -1 ≤ ds x ∧ ds x ≤ 1 := by unfold ds; split <;> (try split) <;> omega
theorem clo_end {L : List (List UInt8)} {k : Nat} (h : L.length ≤ k) (d : Int) : clo (L.drop k) k d = none := by rw [List.drop_of_length_le h]; rfl
theorem clo_yes {L : List (List UInt8)} {k : Nat} (h : k < L.length) {d : Int} (hd : d + ds L[k] = 0) : clo (L.drop k) k d = some k := by
  rw [List.drop_eq_getElem_cons h]; simp only [clo, if_pos hd]
theorem clo_no {L : List (List UInt8)} {k : Nat} (h : k < L.length) {d : Int} (hd : ¬ d + ds L[k] = 0) : clo (L.drop k) k d = clo (L.drop (k + 1)) (k + 1) (d + ds L[k]) := by
  rw [List.drop_eq_getElem_cons h]; simp only [clo, if_neg hd]
theorem fmd_end {wt : Bool} {L : List (List UInt8)} {k : Nat} (h : L.length ≤ k) (d : Int) : fmd wt (L.drop k) d = decide (d = 0) := by rw [List.drop_of_length_le h]; rfl
theorem fmd_no {wt : Bool} {L : List (List UInt8)} {k : Nat} (h : k < L.length) {d : Int} (hd : tk wt L[k] = none ∨ d + ds L[k] < 0) : fmd wt (L.drop k) d = false := by
  rw [List.drop_eq_getElem_cons h]; simp only [fmd, if_pos hd]
theorem fmd_yes {wt : Bool} {L : List (List UInt8)} {k : Nat} (h : k < L.length) {d : Int} (hd : ¬ (tk wt L[k] = none ∨ d + ds L[k] < 0)) : fmd wt (L.drop k) d = fmd wt (L.drop (k + 1)) (d + ds L[k]) := by
  rw [List.drop_eq_getElem_cons h]; simp only [fmd, if_neg hd]
end Sp

/-- The words lie in memory. -/
def SAt (w : World) (p : Option Addr) (X : List ByteArray) : Prop := ∀ j (h : j < X.length), ∃ g off, p = some ⟨g, off, none⟩ ∧ g < w.heap.size ∧ w.cell? ⟨g, off + j, none⟩ = some (.string X[j])
theorem SAt.below {w w' : World} {p : Option Addr} {X : List ByteArray} (h : SAt w p X) (hb : Below w.heap.size w w') : SAt w' p X := fun j hj => by
  obtain ⟨g, off, e, h1, h2⟩ := h j hj
  exact ⟨g, off, e, Nat.lt_of_lt_of_le h1 hb.size, (hb.cell (p := ⟨g, off + j, none⟩) h1).trans h2⟩
def lst (X : List ByteArray) : List (List UInt8) := X.map (·.data.toList)
theorem lst_len (X : List ByteArray) : (lst X).length = X.length := by simp [lst]
theorem lst_get {X : List ByteArray} {k : Nat} (h : k < X.length) : (lst X)[k]'(by rw [lst_len]; exact h) = X[k].data.toList := by simp [lst]

set_option maxHeartbeats 1000000 in
theorem closes_any (p : Option Addr) (cap i : Nat) (X : List ByteArray) (w : World) (h : SAt w p X) (hl : X.length ≤ 4000) (hi : i ≤ X.length) : Calls Tryd.prog 50 #[.slice p X.length cap, .int .i64 i] w fun e w' =>
    e = .returned (.int .i64 (Sp.cloI (Sp.clo ((lst X).drop i) i 0))) ∧ w' = w := by
  obtain ⟨o, HO⟩ : ∃ o, Hid (Sp.clo ((lst X).drop i) i 0 = o) := ⟨_, rfl⟩
  rw [unhide HO]
  go_enter Tryd.func50, Tryd.ntmps50
  go_wp2
  go_loopw [5, 6] (fun a b wr => ∃ (d : Int) (k : Nat), a = .int .i64 d ∧ b = .int .i64 k ∧ k ≤ X.length ∧ -4000 ≤ d + (k : Int) ∧ d ≤ (k : Int) ∧ -((k : Int)) ≤ d ∧ wr = w ∧ Hid (Sp.clo ((lst X).drop k) k d = o)) (fun _ b _ => X.length - (intOf b).toNat)
  case atStart => exact ⟨0, i, rfl, rfl, hi, by omega, by omega, by omega, rfl, HO⟩
  case round =>
    obtain ⟨d, k, rfl, rfl, hk, hd1, hd2, hd3, hw, HC⟩ := hrel
    obtain rfl := hw.symm
    clear hw hd1
    by_cases hlt : k < X.length
    · have hltz : (k : Int) < (X.length : Int) := by omega
      obtain ⟨g, off, rfl, hg1, hg2⟩ := h k hlt
      obtain ⟨x, hx⟩ : ∃ x, X[k] = x := ⟨_, rfl⟩
      rw [hx] at hg2
      have HX : Hid ((lst X)[k]'(by rw [lst_len]; exact hlt) = x.data.toList) := by show _ = _; rw [lst_get hlt, hx]
      clear hx
      have hkl : k < (lst X).length := by rw [lst_len]; exact hlt
      by_cases c1 : x.data.toList = [91]
      · have g1 : (x.toList == [91]) = true := toList_is c1
        have HD : Hid (Sp.ds ((lst X)[k]) = 1) := by show _ = _; rw [unhide HX, c1]; rfl
        clear c1
        by_cases c0 : d + 1 = 0
        · have g0 : ((d + 1) == 0) = true := by rw [beq_iff_eq]; exact c0
          have HE : Hid (o = some k) := by show _ = _; rw [← unhide HC, Sp.clo_yes hkl (by rw [unhide HD]; exact c0)]
          go_wp2
          go_ret
          exact ⟨by rw [unhide HE]; rfl, rfl⟩
        · have g0 : ((d + 1) == 0) = false := by rw [beq_eq_false_iff_ne]; exact c0
          have HE : Hid (Sp.clo ((lst X).drop (k + 1)) (k + 1) (d + 1) = o) := by show _ = _; rw [← unhide HC, Sp.clo_no hkl (by rw [unhide HD]; exact c0), unhide HD]
          go_wp2
          go_roundw
          case rel => exact ⟨d + 1, k + 1, rfl, by go_num, by omega, by omega, by omega, by omega, by trivial, HE⟩
          case measure => simp [intOf]; omega
      · have g1 : (x.toList == [91]) = false := toList_ne c1
        by_cases c2 : x.data.toList = [93]
        · have g2 : (x.toList == [93]) = true := toList_is c2
          have HD : Hid (Sp.ds ((lst X)[k]) = -1) := by show _ = _; rw [unhide HX, c2]; rfl
          clear c1 c2
          by_cases c0 : d - 1 = 0
          · have g0 : ((d - 1) == 0) = true := by rw [beq_iff_eq]; exact c0
            have HE : Hid (o = some k) := by show _ = _; rw [← unhide HC, Sp.clo_yes hkl (by rw [unhide HD]; omega)]
            go_wp2
            go_ret
            exact ⟨by rw [unhide HE]; rfl, rfl⟩
          · have g0 : ((d - 1) == 0) = false := by rw [beq_eq_false_iff_ne]; exact c0
            have HE : Hid (Sp.clo ((lst X).drop (k + 1)) (k + 1) (d - 1) = o) := by show _ = _; rw [← unhide HC, Sp.clo_no hkl (by rw [unhide HD]; omega), unhide HD]; rfl
            go_wp2
            go_roundw
            case rel => exact ⟨d - 1, k + 1, rfl, by go_num, by omega, by omega, by omega, by omega, by trivial, HE⟩
            case measure => simp [intOf]; omega
        · have g2 : (x.toList == [93]) = false := toList_ne c2
          have HD : Hid (Sp.ds ((lst X)[k]) = 0) := by show _ = _; rw [unhide HX]; unfold Sp.ds; rw [if_neg c1, if_neg c2]
          clear c1 c2
          by_cases c0 : d = 0
          · have g0 : (d == 0) = true := by rw [beq_iff_eq]; exact c0
            have HE : Hid (o = some k) := by show _ = _; rw [← unhide HC, Sp.clo_yes hkl (by rw [unhide HD]; omega)]
            go_wp2
            go_ret
            exact ⟨by rw [unhide HE]; rfl, rfl⟩
          · have g0 : (d == 0) = false := by rw [beq_eq_false_iff_ne]; exact c0
            have HE : Hid (Sp.clo ((lst X).drop (k + 1)) (k + 1) d = o) := by show _ = _; rw [← unhide HC, Sp.clo_no hkl (by rw [unhide HD]; omega), unhide HD, Int.add_zero]
            go_wp2
            go_roundw
            case rel => exact ⟨d, k + 1, rfl, by go_num, by omega, by omega, by omega, by omega, by trivial, HE⟩
            case measure => simp [intOf]; omega
    · have hltz : ¬ (k : Int) < (X.length : Int) := by omega
      have HE : Hid (o = none) := by show _ = _; rw [← unhide HC, Sp.clo_end (by rw [lst_len]; omega)]
      go_wp2
      go_ret
      exact ⟨by rw [unhide HE]; rfl, rfl⟩
end Go.Proofs.YteflnddphpjahaaDoor
/-
  strideref.formed.
-/
set_option linter.unusedVariables false
set_option linter.unusedSimpArgs false
set_option maxRecDepth 100000
namespace Go.Proofs.YteflnddphpjahaaDoor
open Go.RowKit

/-- Words as they come out of a split: no blanks. -/
def Wds (X : List ByteArray) : Prop := ∀ x ∈ X, (32 : UInt8) ∉ x.data.toList ∧ x.size ≤ 4000
theorem tkOut_form (o : Option (Nat × Nat)) : ∃ n m : Nat, tkOut o = .tuple #[.int .i64 (n : Int), .int .i64 (m : Int), .bool o.isSome] ∧ (o = none ∨ o = some (n, m)) := by
  cases o with
  | none => exact ⟨0, 0, rfl, Or.inl rfl⟩
  | some nm => obtain ⟨n, m⟩ := nm; exact ⟨n, m, rfl, Or.inr rfl⟩

set_option maxHeartbeats 2000000 in
theorem formed_any (p : Option Addr) (cap : Nat) (wt : Bool) (X : List ByteArray) (w : World) (h : SAt w p X) (hl : X.length ≤ 4000) (hW : Wds X) : Calls Tryd.prog 34 #[.slice p X.length cap, .bool wt] w fun e w' =>
    e = .returned (.bool (Sp.fmd wt (lst X) 0 && !X.isEmpty)) ∧ w' = w := by
  obtain ⟨o, HO⟩ : ∃ o, Hid (Sp.fmd wt ((lst X).drop 0) 0 = o) := ⟨_, rfl⟩
  have HO' := HO
  rw [List.drop_zero] at HO'
  rw [unhide HO']
  clear HO'
  go_enter Tryd.func34, Tryd.ntmps34
  go_wp2
  go_loopw [5, 6] (fun a b wr => ∃ (d : Int) (k : Nat), a = .int .i64 d ∧ b = .int .i64 k ∧ k ≤ X.length ∧ d ≤ (k : Int) ∧ 0 ≤ d ∧ wr = w ∧ Hid (Sp.fmd wt ((lst X).drop k) d = o)) (fun _ b _ => X.length - (intOf b).toNat)
  case atStart => exact ⟨0, 0, rfl, rfl, by omega, by omega, by omega, rfl, HO⟩
  case round =>
    obtain ⟨d, k, rfl, rfl, hk, hd2, hd3, hw, HC⟩ := hrel
    obtain rfl := hw.symm
    clear hw
    by_cases hlt : k < X.length
    · have hltz : (k : Int) < (X.length : Int) := by omega
      obtain ⟨g, off, rfl, hg1, hg2⟩ := h k hlt
      have hwd := hW X[k] (List.getElem_mem hlt)
      obtain ⟨x, hx⟩ : ∃ x, X[k] = x := ⟨_, rfl⟩
      rw [hx] at hg2 hwd
      have HX : Hid ((lst X)[k]'(by rw [lst_len]; exact hlt) = x.data.toList) := by show _ = _; rw [lst_get hlt, hx]
      clear hx
      have hkl : k < (lst X).length := by rw [lst_len]; exact hlt
      obtain ⟨tn, tm, hto, hto2⟩ := tkOut_form (Sp.tk wt x.data.toList)
      obtain ⟨ok, hok⟩ : ∃ ok, (Sp.tk wt x.data.toList).isSome = ok := ⟨_, rfl⟩
      rw [hok] at hto
      have HTO := hide hto
      have HOK : Hid (ok = true ↔ ¬ Sp.tk wt ((lst X)[k]) = none) := by
        show _ ↔ _
        rw [unhide HX, ← hok]
        cases Sp.tk wt x.data.toList <;> simp
      clear hto hto2 hok
      go_upto_region 6 with (go_at_call 49; refine (takes_any x wt _ hwd.2 hwd.1).mono ?_; rintro e w1 ⟨rfl, hw1⟩; obtain rfl := hw1.symm; rw [unhide HTO])
      obtain ⟨d2, HD2⟩ : ∃ d2 : Int, Hid (d2 = d + Sp.ds ((lst X)[k])) := ⟨d + Sp.ds ((lst X)[k]), rfl⟩
      have hdb := Sp.ds_bd ((lst X)[k])
      have hd4 : d2 ≤ (k : Int) + 1 ∧ -1 ≤ d2 := by have := unhide HD2; omega
      by_cases c1 : x.data.toList = [91]
      · have g1 : (x.toList == [91]) = true := toList_is c1
        have HD : Hid (Sp.ds ((lst X)[k]) = 1) := by show _ = _; rw [unhide HX, c1]; rfl
        clear c1
        have HV : Hid (d2 = d + 1) := by show _ = _; rw [unhide HD2, unhide HD]
        cases ok with
        | false =>
          have HE : Hid (o = false) := by
            show _ = _
            have hn : Sp.tk wt ((lst X)[k]) = none := Classical.byContradiction (fun hc => by have := (unhide HOK).2 hc; cases this)
            rw [← unhide HC, Sp.fmd_no hkl (Or.inl hn)]
          go_wp2
          go_ret
          exact ⟨by rw [unhide HE]; rfl, rfl⟩
        | true =>
          have hsome : ¬ Sp.tk wt ((lst X)[k]) = none := (unhide HOK).1 rfl
          have HSM := hide hsome
          clear hsome
          by_cases c0 : d + 1 < 0
          · have HE : Hid (o = false) := by show _ = _; rw [← unhide HC, Sp.fmd_no hkl (Or.inr (by rw [← unhide HD2, unhide HV]; exact c0))]
            go_wp2
            go_ret
            exact ⟨by rw [unhide HE]; rfl, rfl⟩
          · have HE : Hid (Sp.fmd wt ((lst X).drop (k + 1)) (d + 1) = o) := by
              show _ = _
              rw [← unhide HC, Sp.fmd_yes hkl (fun hc => hc.elim (unhide HSM) (fun hc => c0 (by rw [← unhide HD2, unhide HV] at hc; exact hc))), ← unhide HD2, unhide HV]
            go_wp2
            go_roundw
            case rel => exact ⟨d + 1, k + 1, rfl, by go_num, by omega, by omega, by omega, by trivial, HE⟩
            case measure => simp [intOf]; omega
      · have g1 : (x.toList == [91]) = false := toList_ne c1
        by_cases c2 : x.data.toList = [93]
        · have g2 : (x.toList == [93]) = true := toList_is c2
          have HD : Hid (Sp.ds ((lst X)[k]) = -1) := by show _ = _; rw [unhide HX, c2]; rfl
          clear c1 c2
          have HV : Hid (d2 = d - 1) := by show _ = _; rw [unhide HD2, unhide HD]; rfl
          cases ok with
          | false =>
            have HE : Hid (o = false) := by
              show _ = _
              have hn : Sp.tk wt ((lst X)[k]) = none := Classical.byContradiction (fun hc => by have := (unhide HOK).2 hc; cases this)
              rw [← unhide HC, Sp.fmd_no hkl (Or.inl hn)]
            go_wp2
            go_ret
            exact ⟨by rw [unhide HE]; rfl, rfl⟩
          | true =>
            have hsome : ¬ Sp.tk wt ((lst X)[k]) = none := (unhide HOK).1 rfl
            have HSM := hide hsome
            clear hsome
            by_cases c0 : d - 1 < 0
            · have HE : Hid (o = false) := by show _ = _; rw [← unhide HC, Sp.fmd_no hkl (Or.inr (by rw [← unhide HD2, unhide HV]; exact c0))]
              go_wp2
              go_ret
              exact ⟨by rw [unhide HE]; rfl, rfl⟩
            · have HE : Hid (Sp.fmd wt ((lst X).drop (k + 1)) (d - 1) = o) := by
                show _ = _
                rw [← unhide HC, Sp.fmd_yes hkl (fun hc => hc.elim (unhide HSM) (fun hc => c0 (by rw [← unhide HD2, unhide HV] at hc; exact hc))), ← unhide HD2, unhide HV]
              go_wp2
              go_roundw
              case rel => exact ⟨d - 1, k + 1, rfl, by go_num, by omega, by omega, by omega, by trivial, HE⟩
              case measure => simp [intOf]; omega
        · have g2 : (x.toList == [93]) = false := toList_ne c2
          have HD : Hid (Sp.ds ((lst X)[k]) = 0) := by show _ = _; rw [unhide HX]; unfold Sp.ds; rw [if_neg c1, if_neg c2]
          clear c1 c2
          have HV : Hid (d2 = d) := by show _ = _; rw [unhide HD2, unhide HD]; exact Int.add_zero d
          cases ok with
          | false =>
            have HE : Hid (o = false) := by
              show _ = _
              have hn : Sp.tk wt ((lst X)[k]) = none := Classical.byContradiction (fun hc => by have := (unhide HOK).2 hc; cases this)
              rw [← unhide HC, Sp.fmd_no hkl (Or.inl hn)]
            go_wp2
            go_ret
            exact ⟨by rw [unhide HE]; rfl, rfl⟩
          | true =>
            have hsome : ¬ Sp.tk wt ((lst X)[k]) = none := (unhide HOK).1 rfl
            have HSM := hide hsome
            clear hsome
            by_cases c0 : d < 0
            · have HE : Hid (o = false) := by show _ = _; rw [← unhide HC, Sp.fmd_no hkl (Or.inr (by rw [← unhide HD2, unhide HV]; exact c0))]
              go_wp2
              go_ret
              exact ⟨by rw [unhide HE]; rfl, rfl⟩
            · have HE : Hid (Sp.fmd wt ((lst X).drop (k + 1)) (d) = o) := by
                show _ = _
                rw [← unhide HC, Sp.fmd_yes hkl (fun hc => hc.elim (unhide HSM) (fun hc => c0 (by rw [← unhide HD2, unhide HV] at hc; exact hc))), ← unhide HD2, unhide HV]
              go_wp2
              go_roundw
              case rel => exact ⟨d, k + 1, rfl, by go_num, by omega, by omega, by omega, by trivial, HE⟩
              case measure => simp [intOf]; omega
    · have hltz : ¬ (k : Int) < (X.length : Int) := by omega
      have HE : Hid (o = decide (d = 0)) := by show _ = _; rw [← unhide HC, Sp.fmd_end (by rw [lst_len]; omega)]
      by_cases c0 : d = 0
      · have g0 : (d == 0) = true := by rw [beq_iff_eq]; exact c0
        by_cases c1 : 0 < X.length
        · have c1z : (0 : Int) < (X.length : Int) := by omega
          have HXE : Hid (X.isEmpty = false) := by show _ = _; cases X with | nil => simp at c1 | cons a b => rfl
          have HO1 : Hid (o = true) := by show _ = _; rw [unhide HE, decide_eq_true c0]
          go_wp2
          go_ret
          exact ⟨by rw [unhide HO1, unhide HXE]; rfl, rfl⟩
        · have c1z : ¬ (0 : Int) < (X.length : Int) := by omega
          have HXE : Hid (X.isEmpty = true) := by show _ = _; cases X with | nil => rfl | cons a b => simp at c1
          have HO1 : Hid (o = true) := by show _ = _; rw [unhide HE, decide_eq_true c0]
          go_wp2
          go_ret
          exact ⟨by rw [unhide HO1, unhide HXE]; rfl, rfl⟩
      · have g0 : (d == 0) = false := by rw [beq_eq_false_iff_ne]; exact c0
        have HO1 : Hid (o = false) := by show _ = _; rw [unhide HE, decide_eq_false c0]
        go_wp2
        go_ret
        exact ⟨by rw [unhide HO1]; rfl, rfl⟩
end Go.Proofs.YteflnddphpjahaaDoor
