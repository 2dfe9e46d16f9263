import Derived.Test.YteflnddphpjahaaDoorClCqHtoCqJ
import Derived.Test.YteflnddphpjahaaDoorClCrA
/-
  Every word on a dry machine, by what it does to the height and to the open brackets.
-/
set_option linter.unusedVariables false
set_option linter.unusedSimpArgs false
set_option maxRecDepth 100000
namespace Go.Proofs.YteflnddphpjahaaDoor
open Go.RowKit

def flat : List Nat → List Value
  | [] => []
  | h :: r => .int .i64 1 :: .int .i64 h :: flat r
theorem flat_len (ls : List Nat) : (flat ls).length = ls.length * 2 := by
  induction ls with
  | nil => rfl
  | cons h r ih => simp only [flat, List.length_cons, ih]; omega
theorem flat_app (a b : List Nat) : flat (a ++ b) = flat a ++ flat b := by
  induction a with
  | nil => rfl
  | cons h r ih => simp [flat, ih]
/-- A dry machine with these heights behind the open brackets. -/
def DryS (w : World) (M : Nat) (code : Value) (at' fuel h : Nat) (ls : List Nat) : Prop :=
  ∃ x, Dry w M code at' fuel h x ∧ w.ownsRow (M + 1) 202 2 x ls.length (flat ls)
/-- What a word leaves. -/
def WPost (o : Option (Nat × List Nat)) (M at' fuel : Nat) (code : Value) (u : TypeId) (p : Value) (w : World) (e : Ending) (w' : World) : Prop :=
  Below M w w' ∧ match o with
    | some (h, ls) => e = .returned (.tuple #[]) ∧ DryS w' M code at' fuel h ls
    | none => e = .panicked [{ v := .iface u p, recovered := false }]
def WordLaw (F : Nat) (x : List UInt8) : Prop := ∀ (M at' fuel h : Nat) (code : Value) (ls : List Nat) (u : TypeId) (p : Value) (w : World), DryS w M code at' fuel h ls → DryEnv M h u p w → ls.length ≤ 10000 → (x = [93] → ls ≠ []) →
  Calls Tryd.prog F #[.pointer (some ⟨M, 0, none⟩)] w (WPost (Sp.dst x h ls) M at' fuel code u p w)
theorem post_word {x : List UInt8} (h1 : x ≠ [91]) (h2 : x ≠ [93]) {n m : Nat} (ht : Sp.tk true x = some (n, m)) {M at' fuel h : Nat} {code l : Value} {ls : List Nat} {u : TypeId} {p : Value} {w w' : World} {e : Ending} (hr : w.ownsRow (M + 1) 202 2 l ls.length (flat ls)) (hp : DoPost n m M at' fuel h code l u p w e w') :
    WPost (Sp.dst x h ls) M at' fuel code u p w e w' := by
  obtain ⟨ho, hq⟩ := hp
  refine ⟨ho.below, ?_⟩
  unfold Sp.dst
  rw [if_neg h1, if_neg h2, ht]
  simp only
  rcases hq with ⟨q1, q2, rfl, q3⟩ | ⟨q1, rfl⟩
  · rw [if_pos ⟨q1, q2⟩]; exact ⟨rfl, l, q3, ho.own hr⟩
  · rw [if_neg q1]
theorem does_word {F n m : Nat} (hF : Does F n m) {x : List UInt8} (h1 : x ≠ [91]) (h2 : x ≠ [93]) (ht : Sp.tk true x = some (n, m)) : WordLaw F x := by
  intro M at' fuel h code ls u p w hd hv hl hx
  obtain ⟨l, hd, hr⟩ := hd
  exact (hF M at' fuel h code l u p w hd hv).mono fun e w' hp => post_word h1 h2 ht hr hp
theorem law_24 : WordLaw 110 [91] := by
  intro M at' fuel h code ls u p w hd hv hl hx
  obtain ⟨l, hd, hr⟩ := hd
  cases h with
  | zero =>
    refine (do_24 _ M w (begin_none M at' fuel code l w hd u p hv.he) (fun e w' hh => Or.inr ⟨_, hh.1⟩)).mono ?_
    rintro e w' ⟨rfl, rfl⟩
    exact ⟨Below.refl _ _, rfl⟩
  | succ h =>
    refine (do_24 _ M w (begin_ok M at' fuel h ls.length code l (flat ls) w hd hv.hh hl hr) (fun e w' hh => Or.inl hh.1)).mono ?_
    rintro e w' ⟨rfl, x', hd', hr', hk⟩
    refine ⟨hk, rfl, x', hd', ?_⟩
    rw [flat_app, show (ls ++ [h + 1 - 1]).length = ls.length + 1 by simp]
    exact hr'
theorem law_25 : WordLaw 112 [93] := by
  intro M at' fuel h code ls u p w hd hv hl hx
  obtain ⟨l, hd, hr⟩ := hd
  obtain ⟨ls, m, rfl⟩ : ∃ a m, ls = a ++ [m] := ⟨ls.dropLast, ls.getLast (hx rfl), (List.dropLast_concat_getLast (hx rfl)).symm⟩
  rw [flat_app] at hr
  simp only [List.length_append, List.length_cons, List.length_nil] at hr hl
  have hs : ∃ g cap, l = .slice (some ⟨g, 0, none⟩) (ls.length + 1) cap := by
    rcases hr.2 with ⟨h0, hn⟩ | ⟨g, cap, cur, hv, _⟩
    · omega
    · exact ⟨g, cap, hv⟩
  obtain ⟨g, cap, rfl⟩ := hs
  have e1 : Sp.dst [93] h (ls ++ [m]) = if h = m then some (h, ls) else none := by
    unfold Sp.dst
    rw [if_neg (by decide), if_pos rfl]
    simp only [List.getLast?_append, List.getLast?_singleton, Option.some_or, List.dropLast_concat]
  rw [e1]
  by_cases hm : h = m
  · subst hm
    rw [if_pos rfl]
    refine (do_25 _ M w (end_ok M at' fuel h ls.length g cap code (flat ls) w hd (by omega) hr (flat_len ls)) (fun e w' hh => Or.inl hh.1)).mono ?_
    rintro e w' ⟨rfl, hd', hr', hk⟩
    exact ⟨hk, rfl, _, hd', hr'⟩
  · rw [if_neg hm]
    refine (do_25 _ M w (end_bad M at' fuel h m ls.length g cap code (flat ls) w hd (by omega) hr (flat_len ls) hm u p hv.he) (fun e w' hh => Or.inr ⟨_, hh.1⟩)).mono ?_
    rintro e w' ⟨rfl, hb⟩
    exact ⟨hb.mono (Nat.le_of_lt hd.lt), rfl⟩
theorem word_all : (k : Nat) → k < 25 → WordLaw (wfn[k]!) (Sp.nms[k]!)
  | 0, _ => does_word do_1 (by decide) (by decide) (by decide)
  | 1, _ => does_word do_2 (by decide) (by decide) (by decide)
  | 2, _ => does_word do_3 (by decide) (by decide) (by decide)
  | 3, _ => does_word do_4 (by decide) (by decide) (by decide)
  | 4, _ => does_word do_5 (by decide) (by decide) (by decide)
  | 5, _ => does_word do_6 (by decide) (by decide) (by decide)
  | 6, _ => does_word do_7 (by decide) (by decide) (by decide)
  | 7, _ => does_word do_8 (by decide) (by decide) (by decide)
  | 8, _ => does_word do_9 (by decide) (by decide) (by decide)
  | 9, _ => does_word do_10 (by decide) (by decide) (by decide)
  | 10, _ => does_word do_11 (by decide) (by decide) (by decide)
  | 11, _ => does_word do_12 (by decide) (by decide) (by decide)
  | 12, _ => does_word do_13 (by decide) (by decide) (by decide)
  | 13, _ => does_word do_14 (by decide) (by decide) (by decide)
  | 14, _ => does_word do_15 (by decide) (by decide) (by decide)
  | 15, _ => does_word do_16 (by decide) (by decide) (by decide)
  | 16, _ => does_word do_17 (by decide) (by decide) (by decide)
  | 17, _ => does_word do_18 (by decide) (by decide) (by decide)
  | 18, _ => does_word do_19 (by decide) (by decide) (by decide)
  | 19, _ => does_word do_20 (by decide) (by decide) (by decide)
  | 20, _ => does_word do_21 (by decide) (by decide) (by decide)
  | 21, _ => does_word do_22 (by decide) (by decide) (by decide)
  | 22, _ => does_word do_23 (by decide) (by decide) (by decide)
  | 23, _ => law_24
  | 24, _ => law_25
  | n + 25, h => absurd h (by omega)
/-- A number's word. -/
theorem word_num {x : List UInt8} {n : Int} (hn : Sp.number x = some n) (B M at' fuel h : Nat) (code : Value) (ls : List Nat) (u : TypeId) (p : Value) (w : World) (hd : DryS w M code at' fuel h ls) (hv : DryEnv M h u p w) (hB : w.cell? ⟨B, 0, none⟩ = some (.int .i64 n)) :
    Calls Tryd.prog 136 #[.pointer (some ⟨M, 0, none⟩), .pointer (some ⟨B, 0, none⟩)] w (WPost (Sp.dst x h ls) M at' fuel code u p w) := by
  obtain ⟨l, hd, hr⟩ := hd
  have h1 : x ≠ [91] := by rintro rfl; rw [show Sp.number [91] = none by decide] at hn; cases hn
  have h2 : x ≠ [93] := by rintro rfl; rw [show Sp.number [93] = none by decide] at hn; cases hn
  exact (do_num B n M at' fuel h code l u p w hd hv hB).mono fun e w' hp => post_word h1 h2 (Sp.tk_num hn) hr hp
end Go.Proofs.YteflnddphpjahaaDoor
