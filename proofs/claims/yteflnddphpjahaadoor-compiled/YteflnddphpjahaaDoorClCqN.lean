import Derived.Test.YteflnddphpjahaaDoorClCqL
/-
  The program's readCode: plain facts, findWord in one.
-/
set_option linter.unusedVariables false
set_option linter.unusedSimpArgs false
set_option maxRecDepth 100000
namespace Go.Proofs.YteflnddphpjahaaDoor
open Go.RowKit

namespace Sp
/-- What a word does to the mates and to the places of the open brackets. -/
def rst (x : List UInt8) (i : Nat) (ms op : List Nat) : Option (List Nat × List Nat) :=
  if x = [91] then some (ms ++ [0], op ++ [i])
  else if x = [93] then (match op.getLast? with | some l => some (((ms ++ [0]).set i l).set l i, op.dropLast) | none => none)
  else some (ms ++ [0], op)
def rdTo (L : List (List UInt8)) : Nat → Option (List Nat × List Nat)
  | 0 => some ([], [])
  | i + 1 => match rdTo L i with
    | none => none
    | some (ms, op) => rst (L.getD i []) i ms op
theorem rst_len {x : List UInt8} {i : Nat} {ms op ms' op' : List Nat} (h : rst x i ms op = some (ms', op')) : ms'.length = ms.length + 1 ∧ (op'.length : Int) = op.length + ds x := by
  unfold rst at h
  split at h
  · rename_i c
    subst c
    injection h with h; injection h with h1 h2; subst h1 h2; simp [ds]
  · split at h
    · rename_i c1 c2
      subst c2
      split at h
      · rename_i l hl
        injection h with h; injection h with h1 h2; subst h1 h2
        have : op ≠ [] := by rintro rfl; cases hl
        have := List.length_pos_iff.2 this
        simp [ds]; omega
      · cases h
    · rename_i c1 c2
      injection h with h; injection h with h1 h2; subst h1 h2
      rw [ds_none c1 c2]; simp
end Sp
/-- Functions and mates, as they lie. -/
def cz : List Value → List Nat → List Value
  | f :: fs, m :: ms => f :: .int .i64 m :: cz fs ms
  | _, _ => []
theorem cz_len : ∀ (fs : List Value) (ms : List Nat), fs.length = ms.length → (cz fs ms).length = fs.length * 2 := by
  intro fs
  induction fs with
  | nil => intro ms h; rfl
  | cons f fs ih =>
    intro ms h
    cases ms with
    | nil => cases h
    | cons m ms => simp only [cz, List.length_cons]; rw [ih ms (by simpa using h)]; omega
theorem cz_app : ∀ (fs : List Value) (ms : List Nat) (f : Value) (m : Nat), fs.length = ms.length → cz (fs ++ [f]) (ms ++ [m]) = cz fs ms ++ [f, .int .i64 m] := by
  intro fs
  induction fs with
  | nil => intro ms f m h; cases ms with
    | nil => rfl
    | cons a b => cases h
  | cons f' fs ih =>
    intro ms f m h
    cases ms with
    | nil => cases h
    | cons m' ms => simp only [List.cons_append, cz]; rw [ih ms f m (by simpa using h)]
theorem cz_set : ∀ (fs : List Value) (ms : List Nat) (j m : Nat), fs.length = ms.length → (cz fs ms).set (j * 2 + 1) (.int .i64 m) = cz fs (ms.set j m) := by
  intro fs
  induction fs with
  | nil => intro ms j m h; cases ms with
    | nil => rfl
    | cons a b => cases h
  | cons f fs ih =>
    intro ms j m h
    cases ms with
    | nil => cases h
    | cons m' ms =>
      cases j with
      | zero => simp [cz]
      | succ j =>
        rw [show (j + 1) * 2 + 1 = (j * 2 + 1) + 1 + 1 by omega]
        simp only [cz, List.set_cons_succ]
        rw [ih ms j m (by simpa using h)]
theorem cz_fn : ∀ (fs : List Value) (ms : List Nat) (j : Nat), fs.length = ms.length → (cz fs ms)[j * 2]? = fs[j]? := by
  intro fs
  induction fs with
  | nil => intro ms j h; cases ms <;> simp [cz]
  | cons f fs ih =>
    intro ms j h
    cases ms with
    | nil => cases h
    | cons m ms =>
      cases j with
      | zero => simp [cz]
      | succ j =>
        rw [show (j + 1) * 2 = (j * 2) + 1 + 1 by omega]
        simp only [cz, List.getElem?_cons_succ]
        exact ih ms j (by simpa using h)
theorem cz_mate : ∀ (fs : List Value) (ms : List Nat) (j : Nat), fs.length = ms.length → (cz fs ms)[j * 2 + 1]? = (ms[j]?).map (fun m => Value.int .i64 m) := by
  intro fs
  induction fs with
  | nil => intro ms j h; cases ms with
    | nil => simp [cz]
    | cons a b => cases h
  | cons f fs ih =>
    intro ms j h
    cases ms with
    | nil => cases h
    | cons m ms =>
      cases j with
      | zero => simp [cz]
      | succ j =>
        rw [show (j + 1) * 2 + 1 = (j * 2 + 1) + 1 + 1 by omega]
        simp only [cz, List.getElem?_cons_succ]
        exact ih ms j (by simpa using h)
/-- Whichever word it is. -/
def FindAny (x : List UInt8) (w : World) (e : Ending) (w' : World) : Prop :=
  Below w.heap.size w w' ∧ ((∃ (nm : ByteArray) (nw : Bool) (F : Nat) (caps : Array Value), e = .returned (.tuple #[.agg #[.string nm, .bool nw, .func (.func F) #[] caps], .bool true]) ∧ Fn w' w'.heap.size x (.func (.func F) #[] caps) ∧ Sp.tk true x ≠ none ∧ (nw = true → Sp.tk false x = none) ∧ (nw = false → Sp.tk false x ≠ none)) ∨ (Sp.tk true x = none ∧ Sp.tk false x = none ∧ e = .returned (.tuple #[noWord, .bool false])))
theorem findWord_any (s : ByteArray) (b : Nat) (w : World) (hs : s.size ≤ 4000) (hW : WordsAt b w) : Calls Tryd.prog 128 #[.string s, .slice (some ⟨b, 0, none⟩) 25 25] w (FindAny s.data.toList w) := by
  cases hn : Sp.number s.data.toList with
  | some n =>
    refine (findWord_num s _ w hs n hn).mono ?_
    rintro e w' ⟨B, h1, h2, rfl, h3⟩
    have h4 : B < w'.heap.size := (Array.getElem?_eq_some_iff.1 h2).1
    refine ⟨h3, Or.inl ⟨_, _, _, _, rfl, Or.inl ⟨B, n, h4, rfl, h2, hn⟩, ?_, ?_, ?_⟩⟩
    · rw [Sp.tk_num hn]; intro e; cases e
    · intro e; cases e
    · intro _; rw [Sp.tk_num hn]; intro e; cases e
  | none =>
    refine (findWord_else s b w hs hW hn).mono ?_
    rintro e w' ⟨h3, ⟨k, hk, hx, rfl⟩ | ⟨hx, rfl⟩⟩
    · refine ⟨h3, Or.inl ⟨_, _, _, _, rfl, Or.inr ⟨k, hk, hx.symm, rfl⟩, ?_, ?_, ?_⟩⟩
      · rw [← hx, Sp.tk_true k hk]; intro e; cases e
      · intro h8
        rw [← hx, Sp.tk_false k hk]
        rw [if_pos (by simpa [wordWt] using h8)]
      · intro h8
        rw [← hx, Sp.tk_false k hk]
        rw [if_neg (by simpa [wordWt] using h8)]
        intro e; cases e
    · exact ⟨h3, Or.inr ⟨Sp.tk_none hn hx, Sp.tk_none hn hx, rfl⟩⟩
end Go.Proofs.YteflnddphpjahaaDoor
