import Derived.Test.YteflnddphpjahaaDoorClPlJtoPlQ
/-
  Plain facts for Runed: runes as bytes, and back; texts of vertices (no program in this text).
-/
set_option linter.unusedVariables false
set_option linter.unusedSimpArgs false
set_option maxRecDepth 100000
namespace Go.Proofs.YteflnddphpjahaaDoor.Sp
open Go

theorem bt_drop {s : ByteArray} {i : Nat} {b : UInt8} {rest : List UInt8} (h : s.data.toList.drop i = b :: rest) : i < s.size ∧ bt s i = b.toNat ∧ s.data.toList.drop (i + 1) = rest := by
  have hl : i < s.data.toList.length := by
    apply Decidable.byContradiction
    intro hn
    rw [List.drop_of_length_le (by omega)] at h
    cases h
  have hs : i < s.size := by simpa using hl
  rw [List.drop_eq_getElem_cons hl] at h
  injection h with h1 h2
  refine ⟨hs, ?_, h2⟩
  rw [← bt_of s i hs, ← h1]
  simp [ByteArray.getElem_eq_getElem_data]

def validR (r : Nat) : Prop := r < 1114112 ∧ (r < 55296 ∨ 57344 ≤ r)
/-- A rune as bytes. -/
def en (r : Nat) : List UInt8 :=
  if r < 128 then [UInt8.ofNat r]
  else if r < 2048 then [UInt8.ofNat (192 + r / 64), UInt8.ofNat (128 + r % 64)]
  else if r < 65536 then [UInt8.ofNat (224 + r / 4096), UInt8.ofNat (128 + r / 64 % 64), UInt8.ofNat (128 + r % 64)]
  else [UInt8.ofNat (240 + r / 262144), UInt8.ofNat (128 + r / 4096 % 64), UInt8.ofNat (128 + r / 64 % 64), UInt8.ofNat (128 + r % 64)]
theorem ofNat_toNat {n : Nat} (h : n < 256) : (UInt8.ofNat n).toNat = n := by simp; omega
theorem en_len (r : Nat) : 1 ≤ (en r).length ∧ (en r).length ≤ 4 := by
  unfold en; split
  · simp
  · split
    · simp
    · split <;> simp
set_option maxHeartbeats 1000000 in
theorem dec_en {s : ByteArray} {i r : Nat} {rest : List UInt8} (hr : validR r) (h : s.data.toList.drop i = en r ++ rest) :
    Utf8.decode s i = (r, (en r).length) ∧ i < s.size ∧ s.data.toList.drop (i + (en r).length) = rest ∧ bt s i = (if r < 128 then r else if r < 2048 then 192 + r / 64 else if r < 65536 then 224 + r / 4096 else 240 + r / 262144) := by
  obtain ⟨hr1, hr2⟩ := hr
  rw [dec]
  unfold en at h ⊢
  by_cases c1 : r < 128
  · rw [if_pos c1] at h ⊢
    obtain ⟨h1, h2, h3⟩ := bt_drop h
    rw [ofNat_toNat (by omega)] at h2
    simp only [Lib.decodeN]
    rw [if_pos (by omega), if_pos c1]
    exact ⟨by rw [h2]; rfl, h1, h3, h2⟩
  · rw [if_neg c1] at h ⊢
    by_cases c2 : r < 2048
    · rw [if_pos c2] at h ⊢
      obtain ⟨h1, h2, h3⟩ := bt_drop h
      obtain ⟨k1, k2, k3⟩ := bt_drop h3
      rw [ofNat_toNat (by omega)] at h2 k2
      simp only [Lib.decodeN]
      rw [if_neg c1, if_pos c2]
      refine ⟨?_, h1, k3, h2⟩
      rw [h2, k2, if_neg (by omega), if_pos (by omega), if_pos (by omega)]
      exact Prod.ext (by show _ = r; omega) rfl
    · rw [if_neg c2] at h ⊢
      by_cases c3 : r < 65536
      · rw [if_pos c3] at h ⊢
        obtain ⟨h1, h2, h3⟩ := bt_drop h
        obtain ⟨k1, k2, k3⟩ := bt_drop h3
        obtain ⟨m1, m2, m3⟩ := bt_drop k3
        rw [ofNat_toNat (by omega)] at h2 k2 m2
        simp only [Lib.decodeN]
        rw [if_neg c1, if_neg c2, if_pos c3]
        refine ⟨?_, h1, m3, h2⟩
        rw [show i + 1 + 1 = i + 2 by omega] at m1 m2
        rw [h2, k2, m2, if_neg (by omega), if_neg (by omega), if_pos (by omega), if_pos (by omega)]
        exact Prod.ext (by show _ = r; omega) rfl
      · rw [if_neg c3] at h ⊢
        obtain ⟨h1, h2, h3⟩ := bt_drop h
        obtain ⟨k1, k2, k3⟩ := bt_drop h3
        obtain ⟨m1, m2, m3⟩ := bt_drop k3
        obtain ⟨n1, n2, n3⟩ := bt_drop m3
        rw [ofNat_toNat (by omega)] at h2 k2 m2 n2
        simp only [Lib.decodeN]
        rw [if_neg c1, if_neg c2, if_neg c3]
        refine ⟨?_, h1, n3, h2⟩
        rw [show i + 1 + 1 = i + 2 by omega] at m1 m2 n1 n2
        rw [show i + 2 + 1 = i + 3 by omega] at n1 n2
        rw [h2, k2, m2, n2, if_neg (by omega), if_neg (by omega), if_neg (by omega), if_pos (by omega), if_pos (by omega)]
        exact Prod.ext (by show _ = r; omega) rfl
theorem en_ascii {r : Nat} (h : r < 128) : en r = [UInt8.ofNat r] := by unfold en; rw [if_pos h]

/-- From place i the runes lead to place j. -/
def Goes (s : ByteArray) (i j : Nat) : Prop := ∀ C : Nat → Prop, C j → (∀ k, k < s.size → ¬ Utf8.decode s k = (65533, 1) → C (k + (Utf8.decode s k).2) → C k) → C i
theorem Goes.here {s : ByteArray} (i : Nat) : Goes s i i := fun _ h _ => h
theorem Goes.step {s : ByteArray} {i j : Nat} (h1 : i < s.size) (h2 : ¬ Utf8.decode s i = (65533, 1)) (h3 : Goes s (i + (Utf8.decode s i).2) j) : Goes s i j := fun C a b => b i h1 h2 (h3 C a b)
theorem Goes.trans {s : ByteArray} {i j k : Nat} (h : Goes s i j) (g : Goes s j k) : Goes s i k :=
  h (fun i => Goes s i k) g (fun _ h1 h2 ih => .step h1 h2 ih)
theorem Goes.bad {s : ByteArray} {i j : Nat} (h : Goes s i j) (hj : j < s.size) (hd : Utf8.decode s j = (65533, 1)) : ∀ f, s.size - i ≤ f → badFrom s f i = some j := by
  refine h (fun i => ∀ f, s.size - i ≤ f → badFrom s f i = some j) ?_ ?_
  · intro f hf
    cases f with
    | zero => omega
    | succ f => simp only [badFrom]; rw [if_pos hj, if_pos hd]
  · intro i h1 h2 ih f hf
    cases f with
    | zero => omega
    | succ f =>
      simp only [badFrom]; rw [if_pos h1, if_neg h2]
      have := dec_size h1
      exact ih f (by omega)
theorem Goes.valid {s : ByteArray} {i j : Nat} (h : Goes s i j) (hV : V s j) : V s i := by
  refine h (fun i => V s i) hV ?_
  intro i h1 h2 ih f
  cases f with
  | zero => rfl
  | succ f => simp only [badFrom]; rw [if_pos h1, if_neg h2]; exact ih f
theorem goes_en {s : ByteArray} {i r : Nat} {rest : List UInt8} (hr : validR r) (h : s.data.toList.drop i = en r ++ rest) : Goes s i (i + (en r).length) ∧ s.data.toList.drop (i + (en r).length) = rest := by
  obtain ⟨h1, h2, h3, _⟩ := dec_en hr h
  refine ⟨.step h2 ?_ ?_, h3⟩
  · rw [h1]
    intro e
    have e1 := congrArg Prod.fst e
    have e2 := congrArg Prod.snd e
    simp only at e1 e2
    unfold en at e2
    rw [e1] at e2
    simp at e2
  · rw [h1]; exact .here _
theorem goes_bytes {s : ByteArray} : ∀ (l : List UInt8) (i : Nat) (rest : List UInt8), (∀ b ∈ l, b.toNat < 128) → s.data.toList.drop i = l ++ rest → Goes s i (i + l.length) ∧ s.data.toList.drop (i + l.length) = rest := by
  intro l
  induction l with
  | nil => intro i rest _ h; exact ⟨.here _, h⟩
  | cons b t ih =>
    intro i rest hb h
    have hb0 := hb b (List.mem_cons_self ..)
    have e : en b.toNat = [b] := by rw [en_ascii hb0]; simp
    obtain ⟨g1, g2⟩ := goes_en (r := b.toNat) (rest := t ++ rest) ⟨by omega, by omega⟩ (by rw [e]; exact h)
    rw [e] at g1 g2
    obtain ⟨g3, g4⟩ := ih (i + 1) rest (fun c hc => hb c (List.mem_cons_of_mem _ hc)) g2
    have e2 : i + (b :: t).length = i + 1 + t.length := by simp; omega
    rw [e2]
    exact ⟨g1.trans g3, g4⟩

/-- A number below 100 as bytes. -/
def dm (n : Nat) : List UInt8 := if n ≤ 9 then [UInt8.ofNat (48 + n)] else [UInt8.ofNat (48 + n / 10), UInt8.ofNat (48 + n % 10)]
theorem dm_low (n : Nat) (hn : n < 100) : ∀ b ∈ dm n, 48 ≤ b.toNat ∧ b.toNat < 58 := by
  intro b hb
  unfold dm at hb
  split at hb
  · simp only [List.mem_singleton] at hb
    subst hb
    rw [ofNat_toNat (by omega)]; omega
  · simp only [List.mem_cons, List.mem_nil_iff, or_false] at hb
    rcases hb with rfl | rfl <;> rw [ofNat_toNat (by omega)] <;> omega
theorem dm_num : ∀ n, n < 64 → number (dm n) = some (n : Int) := by decide
theorem dm_len (n : Nat) : 1 ≤ (dm n).length ∧ (dm n).length ≤ 2 := by unfold dm; split <;> simp
/-- A vertex's line, without its line feed. -/
def vl (r k : Nat) : List UInt8 := en r ++ 32 :: dm k
def txt : List Nat → Nat → List UInt8
  | [], _ => []
  | r :: t, k => (vl r k ++ [10]) ++ txt t (k + 1)
theorem txt_append : ∀ (A B : List Nat) (k : Nat), txt (A ++ B) k = txt A k ++ txt B (k + A.length) := by
  intro A
  induction A with
  | nil => intro B k; simp [txt]
  | cons a t ih => intro B k; simp only [List.cons_append, txt, ih, List.append_assoc, List.length_cons, show k + (t.length + 1) = k + 1 + t.length by omega]
theorem txt_len : ∀ (R : List Nat) (k : Nat), (txt R k).length ≤ 8 * R.length := by
  intro R
  induction R with
  | nil => intro k; simp [txt]
  | cons r t ih =>
    intro k
    have h1 := en_len r
    have h2 := dm_len k
    have h3 := ih (k + 1)
    simp only [txt, vl, List.length_append, List.length_cons, List.length_nil]
    omega
/-- Names that may be. -/
def okR (r : Nat) : Prop := validR r ∧ r ≠ 32 ∧ r ≠ 10 ∧ r ≠ 62
theorem goes_txt {s : ByteArray} : ∀ (R : List Nat) (k i : Nat) (rest : List UInt8), (∀ r ∈ R, okR r) → k + R.length ≤ 100 → s.data.toList.drop i = txt R k ++ rest → Goes s i (i + (txt R k).length) ∧ s.data.toList.drop (i + (txt R k).length) = rest := by
  intro R
  induction R with
  | nil => intro k i rest _ _ h; exact ⟨.here _, h⟩
  | cons r t ih =>
    intro k i rest hR hk h
    simp only [List.length_cons] at hk
    simp only [txt, vl, List.append_assoc, List.cons_append, List.nil_append] at h
    obtain ⟨g1, g2⟩ := goes_en (hR r (List.mem_cons_self ..)).1 h
    have g2' : s.data.toList.drop (i + (en r).length) = (32 :: (dm k ++ [10])) ++ (txt t (k + 1) ++ rest) := by simpa using g2
    obtain ⟨g3, g4⟩ := goes_bytes (32 :: (dm k ++ [10])) _ _ (fun b hb => by
      simp only [List.mem_cons, List.mem_append, List.mem_nil_iff, or_false] at hb
      rcases hb with rfl | hb | rfl
      · decide
      · have := dm_low k (by omega) b hb; omega
      · decide) g2'
    obtain ⟨g5, g6⟩ := ih (k + 1) _ rest (fun x hx => hR x (List.mem_cons_of_mem _ hx)) (by omega) g4
    have e : i + (txt (r :: t) k).length = i + (en r).length + (32 :: (dm k ++ [10])).length + (txt t (k + 1)).length := by simp [txt, vl]; omega
    rw [e]
    exact ⟨g1.trans (g3.trans g5), g6⟩
end Go.Proofs.YteflnddphpjahaaDoor.Sp
