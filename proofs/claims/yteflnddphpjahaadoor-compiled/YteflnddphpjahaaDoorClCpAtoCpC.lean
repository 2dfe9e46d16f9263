import Derived.Test.YteflnddphpjahaaDoorClPlAtoPlI
import Derived.Test.YteflnddphpjahaaDoorClRefBtoRefD
import Derived.Deep.DeepMust
/-
  Plain facts for Compile: words in a text with blanks around (no program in this text).
-/
set_option linter.unusedVariables false
set_option linter.unusedSimpArgs false
set_option maxRecDepth 100000
namespace Go.Proofs.YteflnddphpjahaaDoor.Sp
open Go

/-- Does t stand at place i? -/
def hit (S t : List UInt8) (i : Nat) : Prop := (S.drop i).take t.length = t
/-- Does a word stand in a text, with a blank on each side? -/
def inB (S w : List UInt8) : Prop := w ≠ [] ∧ ∃ i, i + (w.length + 2) ≤ S.length ∧ hit S (32 :: (w ++ [32])) i
/-- Words, each behind a blank, a blank at the end. -/
def bl : List (List UInt8) → List UInt8
  | [] => [32]
  | x :: r => 32 :: (x ++ bl r)
theorem bl_head (l : List (List UInt8)) : ∃ r, bl l = 32 :: r := by
  cases l with
  | nil => exact ⟨[], rfl⟩
  | cons x r => exact ⟨_, rfl⟩
theorem pre_iff {S t : List UInt8} {i : Nat} : hit S t i ↔ t <+: S.drop i := by
  unfold hit
  constructor
  · intro h
    refine ⟨(S.drop i).drop t.length, ?_⟩
    conv => lhs; lhs; rw [← h]
    exact List.take_append_drop _ _
  · rintro ⟨r, h⟩; rw [← h]; simp
/-- Two ways to cut at the first blank. -/
theorem cut_eq : ∀ (a b x y : List UInt8), (32 : UInt8) ∉ a → (32 : UInt8) ∉ b → a ++ 32 :: x = b ++ 32 :: y → a = b ∧ x = y := by
  intro a
  induction a with
  | nil =>
    intro b x y _ hb h
    cases b with
    | nil => simp at h; exact ⟨rfl, h⟩
    | cons c t => simp at h; exact absurd (by rw [h.1]; exact List.mem_cons_self ..) hb
  | cons c t ih =>
    intro b x y ha hb h
    cases b with
    | nil => simp at h; exact absurd (by rw [h.1]; exact List.mem_cons_self ..) ha
    | cons d u =>
      simp only [List.cons_append, List.cons.injEq] at h
      obtain ⟨h1, h2⟩ := ih u x y (fun hm => ha (List.mem_cons_of_mem _ hm)) (fun hm => hb (List.mem_cons_of_mem _ hm)) h.2
      exact ⟨by rw [h.1, h1], h2⟩
theorem word_at_head {w : List UInt8} (hw : (32 : UInt8) ∉ w) {l : List (List UInt8)} (hl : ∀ x ∈ l, (32 : UInt8) ∉ x) (h : 32 :: (w ++ [32]) <+: bl l) : ∃ x r, l = x :: r ∧ x = w := by
  obtain ⟨q, hq⟩ := h
  cases l with
  | nil => simp [bl] at hq
  | cons x r =>
    obtain ⟨z, hz⟩ := bl_head r
    simp only [bl, hz, List.cons_append, List.cons.injEq, true_and, List.append_assoc, List.nil_append] at hq
    obtain ⟨e, _⟩ := cut_eq w x q z hw (hl x (List.mem_cons_self ..)) hq
    exact ⟨x, r, rfl, e.symm⟩
theorem hits_bl {w : List UInt8} (hw : (32 : UInt8) ∉ w) : ∀ (l : List (List UInt8)), (∀ x ∈ l, (32 : UInt8) ∉ x) → ∀ i, (32 :: (w ++ [32])) <+: (bl l).drop i → w ∈ l := by
  intro l
  induction l with
  | nil =>
    intro _ i h
    cases i with
    | zero => obtain ⟨x, r, e, _⟩ := word_at_head hw (l := []) (fun x hx => by simp at hx) (by simpa using h); cases e
    | succ i => obtain ⟨q, hq⟩ := h; simp [bl] at hq
  | cons x r ih =>
    intro hl i h
    by_cases h0 : i = 0
    · subst h0
      obtain ⟨y, s, e, e2⟩ := word_at_head hw hl (by simpa using h)
      injection e with e3 e4
      rw [← e2, ← e3]; exact List.mem_cons_self ..
    · obtain ⟨k, rfl⟩ : ∃ k, i = k + 1 := ⟨i - 1, by omega⟩
      simp only [bl, List.drop_succ_cons] at h
      by_cases hk : k < x.length
      · -- the blank would stand within x
        rw [List.drop_append_of_le_length (by omega), List.drop_eq_getElem_cons hk] at h
        obtain ⟨q, hq⟩ := h
        simp only [List.cons_append, List.cons.injEq] at hq
        exact absurd (by rw [hq.1]; exact List.getElem_mem hk) (hl x (List.mem_cons_self ..))
      · rw [List.drop_append, List.drop_of_length_le (by omega), List.nil_append] at h
        exact List.mem_cons_of_mem _ (ih (fun y hy => hl y (List.mem_cons_of_mem _ hy)) _ h)
theorem bl_hits {w : List UInt8} : ∀ (l : List (List UInt8)), w ∈ l → ∃ i, (32 :: (w ++ [32])) <+: (bl l).drop i := by
  intro l
  induction l with
  | nil => intro h; simp at h
  | cons x r ih =>
    intro h
    simp only [List.mem_cons] at h
    rcases h with rfl | h
    · obtain ⟨z, hz⟩ := bl_head r
      exact ⟨0, by simp only [bl, hz, List.drop_zero]; exact ⟨z, by simp⟩⟩
    · obtain ⟨i, hi⟩ := ih h
      refine ⟨(32 :: x).length + i, ?_⟩
      have e : bl (x :: r) = (32 :: x) ++ bl r := by simp [bl]
      rw [e, List.drop_append, List.drop_of_length_le (by omega), List.nil_append, show (32 :: x).length + i - (32 :: x).length = i by omega]
      exact hi
theorem inB_bl {S w : List UInt8} {l : List (List UInt8)} (hS : S = bl l) (hl : ∀ x ∈ l, (32 : UInt8) ∉ x) (hw : (32 : UInt8) ∉ w) : inB S w ↔ w ≠ [] ∧ w ∈ l := by
  subst hS
  unfold inB
  constructor
  · rintro ⟨h1, i, _, h3⟩
    exact ⟨h1, hits_bl hw l hl i (pre_iff.1 h3)⟩
  · rintro ⟨h1, h2⟩
    obtain ⟨i, hi⟩ := bl_hits l h2
    refine ⟨h1, i, ?_, pre_iff.2 hi⟩
    have := hi.length_le
    simp only [List.length_cons, List.length_append, List.length_nil, List.length_drop] at this
    omega
end Go.Proofs.YteflnddphpjahaaDoor.Sp
/-
  strideref.in.
-/
set_option linter.unusedVariables false
set_option linter.unusedSimpArgs false
set_option maxRecDepth 100000
namespace Go.Proofs.YteflnddphpjahaaDoor
open Go.RowKit

theorem toL (b : ByteArray) : b.toList = b.data.toList := by simp [ByteArray.toList_eq]

open Classical in
set_option maxHeartbeats 1000000 in
theorem in_any (S x : ByteArray) (w : World) (hS : S.size ≤ 1000) (hx : x.size ≤ 4000) : Calls Tryd.prog 33 #[.string S, .string x] w fun e w' => e = .returned (.bool (decide (Sp.inB S.data.toList x.data.toList))) ∧ w' = w := by
  obtain ⟨t, ht⟩ : ∃ t, (⟨#[32]⟩ ++ x ++ ⟨#[32]⟩ : ByteArray) = t := ⟨_, rfl⟩
  have HTL : Hid (t.data.toList = 32 :: (x.data.toList ++ [32])) := by
    show _ = _
    rw [← ht, ByteArray.data_append, Array.toList_append, ByteArray.data_append, Array.toList_append]
    rfl
  have hts : t.size = x.size + 2 := by rw [← ht, ByteArray.size_append, ByteArray.size_append]; show 1 + x.size + 1 = _; omega
  have HTS := hide hts
  have htz : t.size ≤ 4002 := by omega
  clear hts
  go_enter Tryd.func33, Tryd.ntmps33
  go_wp2
  clear ht
  go_loopw [6] (fun u wr => ∃ i : Nat, u = .int .i64 i ∧ i ≤ 2000 ∧ wr = w ∧ Hid (∀ k, k < i → k + (x.size + 2) ≤ S.size → ¬ Sp.hit S.data.toList (32 :: (x.data.toList ++ [32])) k)) (fun u _ => 2001 - (intOf u).toNat)
  case atStart => exact ⟨0, rfl, by omega, rfl, fun k hk => by omega⟩
  case round =>
    obtain ⟨i, rfl, hi, hw, HN⟩ := hrel
    obtain rfl := hw.symm
    clear hw
    obtain ⟨k, HK⟩ : ∃ k, Hid (k = i + t.size) := ⟨_, rfl⟩
    have hk : (i : Int) + (t.size : Int) = (k : Int) := by have := unhide HK; omega
    have hik : i ≤ k := by have := unhide HK; omega
    have hikz : (i : Int) ≤ (k : Int) := by omega
    have hkz : k ≤ 7000 := by have := unhide HK; omega
    by_cases hlt : k ≤ S.size
    · have hltz : (k : Int) ≤ (S.size : Int) := by omega
      have HEX : Hid ((S.extract i k).data.toList = (S.data.toList.drop i).take t.size) := by
        show _ = _
        rw [ByteArray.data_extract, Array.toList_extract, unhide HK]
        simp
      by_cases hm : (S.extract i k).data.toList = t.data.toList
      · have g1 : ((S.extract i k).toList == t.toList) = true := by rw [beq_iff_eq, toL, toL]; exact hm
        have HM := hide hm
        clear hm
        go_wp2
        go_ret
        refine ⟨?_, rfl⟩
        have hit : Sp.hit S.data.toList (32 :: (x.data.toList ++ [32])) i := by
          have h1 := unhide HM
          rw [unhide HEX, unhide HTL] at h1
          unfold Sp.hit
          have h2 : (32 :: (x.data.toList ++ [32]) : List UInt8).length = t.size := by have := unhide HTS; simp; omega
          rw [h2]; exact h1
        show Ending.returned (Value.bool _) = Ending.returned (Value.bool _)
        congr 2
        cases hxl : x.data.toList with
        | nil =>
          rw [decide_eq_false (fun hc => hc.1 rfl)]
          rw [toL, hxl]; rfl
        | cons a r =>
          rw [hxl] at hit
          rw [decide_eq_true]
          · rw [toL, hxl]; rfl
          · refine ⟨by simp, i, ?_, hit⟩
            have h3 : S.data.toList.length = S.size := by simp
            have h4 : x.data.toList.length = x.size := by simp
            rw [hxl] at h4
            have := unhide HK
            have := unhide HTS
            omega
      · have g1 : ((S.extract i k).toList == t.toList) = false := by rw [beq_eq_false_iff_ne, toL, toL]; exact hm
        have HM := hide hm
        clear hm
        go_wp2
        go_roundw
        case rel =>
          refine ⟨i + 1, by go_num, by omega, by trivial, ?_⟩
          intro j hj1 hj2 hj3
          by_cases hji : j = i
          · subst hji
            apply unhide HM
            rw [unhide HEX, unhide HTL]
            unfold Sp.hit at hj3
            have h2 : (32 :: (x.data.toList ++ [32]) : List UInt8).length = t.size := by have := unhide HTS; simp; omega
            rw [h2] at hj3; exact hj3
          · exact (unhide HN) j (by omega) hj2 hj3
        case measure => simp [intOf]; omega
    · have hltz : ¬ (k : Int) ≤ (S.size : Int) := by omega
      go_wp2
      go_ret
      refine ⟨?_, rfl⟩
      rw [decide_eq_false]
      rfl
      rintro ⟨_, j, h1, h2⟩
      have h3 : S.data.toList.length = S.size := by simp
      have h4 : x.data.toList.length = x.size := by simp
      have := unhide HK
      have := unhide HTS
      exact (unhide HN) j (by omega) (by omega) h2
end Go.Proofs.YteflnddphpjahaaDoor
/-
  Plain facts for Compile: what a word takes and puts (no program in this text).
-/
set_option linter.unusedVariables false
set_option linter.unusedSimpArgs false
set_option maxRecDepth 100000
namespace Go.Proofs.YteflnddphpjahaaDoor.Sp
open Go

def loadsL : List (List UInt8) := [[118, 97, 108, 117, 101], [111, 108, 100], [105, 110], [103, 111, 116], [115, 116, 101, 112], [105, 100], [100, 101, 103], [97, 108, 108]]
def twosL : List (List UInt8) := [[43], [45], [42], [47], [37], [60], [61], [109, 105, 110], [109, 97, 120]]
def combsL : List (List UInt8) := [[109, 105, 110], [109, 97, 120], [115, 117, 109]]
/-- What a word takes, and puts. -/
def tk (wt : Bool) (x : List UInt8) : Option (Nat × Nat) :=
  if (number x).isSome = true ∨ x ∈ loadsL ∨ (wt = true ∧ x = [119, 101, 105, 103, 104, 116]) then some (0, 1)
  else if x ∈ twosL then some (2, 1)
  else if x = [100, 117, 112] then some (1, 2)
  else if x = [100, 114, 111, 112] then some (1, 0)
  else if x = [91] then some (1, 0)
  else if x = [115, 119, 97, 112] then some (2, 2)
  else if x = [111, 118, 101, 114] then some (2, 3)
  else if x = [63] then some (3, 1)
  else if x = [93] then some (0, 0)
  else none
theorem in_loads {w : List UInt8} (hw : (32 : UInt8) ∉ w) : inB [32, 118, 97, 108, 117, 101, 32, 111, 108, 100, 32, 105, 110, 32, 103, 111, 116, 32, 115, 116, 101, 112, 32, 105, 100, 32, 100, 101, 103, 32, 97, 108, 108, 32] w ↔ w ∈ loadsL := by
  refine (inB_bl (l := loadsL) (by decide) (by decide) hw).trans ?_
  exact ⟨fun h => h.2, fun h => ⟨fun e => by subst e; revert h; decide, h⟩⟩
theorem in_twos {w : List UInt8} (hw : (32 : UInt8) ∉ w) : inB [32, 43, 32, 45, 32, 42, 32, 47, 32, 37, 32, 60, 32, 61, 32, 109, 105, 110, 32, 109, 97, 120, 32] w ↔ w ∈ twosL := by
  refine (inB_bl (l := twosL) (by decide) (by decide) hw).trans ?_
  exact ⟨fun h => h.2, fun h => ⟨fun e => by subst e; revert h; decide, h⟩⟩
theorem in_combs {w : List UInt8} (hw : (32 : UInt8) ∉ w) : inB [32, 109, 105, 110, 32, 109, 97, 120, 32, 115, 117, 109, 32] w ↔ w ∈ combsL := by
  refine (inB_bl (l := combsL) (by decide) (by decide) hw).trans ?_
  exact ⟨fun h => h.2, fun h => ⟨fun e => by subst e; revert h; decide, h⟩⟩
end Go.Proofs.YteflnddphpjahaaDoor.Sp
