import Derived.Test.YteflnddphpjahaaClSeA
/-
  Plain facts for Open and Turned: which texts are sealed.
-/
set_option linter.unusedVariables false
set_option linter.unusedSimpArgs false
namespace Go.Proofs.Yteflnddphpjahaa.Sp
open Go

theorem ba_ext {a b : ByteArray} (hs : a.size = b.size) (h : ∀ i, i < a.size → bt a i = bt b i) : a = b := by
  apply ByteArray.ext
  apply Array.ext hs
  intro i h1 h2
  have h3 := h i h1
  rw [← bt_of a i h1, ← bt_of b i h2] at h3
  exact UInt8.toNat_inj.1 h3
theorem bt_sub (s : ByteArray) (a b p : Nat) (hb : b ≤ s.size) (hp : a + p < b) : bt (s.extract a b) p = bt s (a + p) := by
  rw [← bt_of (s.extract a b) p (by rw [ByteArray.size_extract]; omega), ← bt_of s (a + p) (by omega), ByteArray.getElem_extract]
theorem bt_app1 (a b : ByteArray) (i : Nat) (h : i < a.size) : bt (a ++ b) i = bt a i := by
  rw [← bt_of (a ++ b) i (by rw [ByteArray.size_append]; omega), ← bt_of a i h, ByteArray.getElem_append_left h]
theorem bt_app2 (a b : ByteArray) (i : Nat) (h : i < b.size) : bt (a ++ b) (a.size + i) = bt b i := by
  rw [← bt_of (a ++ b) (a.size + i) (by rw [ByteArray.size_append]; omega), ← bt_of b i h, ByteArray.getElem_append_right (by omega)]
  simp
theorem bt_app2' (a b : ByteArray) (i n : Nat) (hn : a.size = n) (h : i < b.size) : bt (a ++ b) (n + i) = bt b i := by
  subst hn; exact bt_app2 a b i h
theorem lek_get (n k i : Nat) (h : i < k) : (lek n k)[i]'(by rw [lek_length]; exact h) = UInt8.ofNat (n / 256 ^ i % 256) := by
  induction k with
  | zero => omega
  | succ k ih =>
    by_cases hk : i < k
    · have := ih hk
      simp only [lek]
      rw [List.getElem_append_left (by rw [lek_length]; exact hk)]; exact this
    · have e : i = k := by omega
      subst e
      simp only [lek]
      rw [List.getElem_append_right (by rw [lek_length]; omega)]
      simp [lek_length]
theorem bt_le (n k i : Nat) (h : i < k) : bt (leB n k) i = n / 256 ^ i % 256 := by
  rw [← bt_of (leB n k) i (by rw [leB_size]; exact h)]
  have h1 : (leB n k)[i]'(by rw [leB_size]; exact h) = (lek n k)[i]'(by rw [lek_length]; exact h) := by
    rfl
  rw [h1, lek_get n k i h]
  simp
/-- The head's bytes. -/
theorem bt_head (p : ByteArray) (i : Nat) (h : i < 8) : bt (headB p) i = if i < 4 then p.size / 256 ^ i % 256 else crc p / 256 ^ (i - 4) % 256 := by
  unfold headB
  by_cases h4 : i < 4
  · rw [if_pos h4, bt_app1 _ _ _ (by rw [leB_size]; exact h4), bt_le _ _ _ h4]
  · rw [if_neg h4]
    obtain ⟨j, rfl⟩ : ∃ j, i = 4 + j := ⟨i - 4, by omega⟩
    rw [bt_app2' _ _ j 4 (leB_size _ _) (by rw [leB_size]; omega), bt_le _ _ _ (by omega)]
    simp
/-- The first eight bytes are a payload's head. -/
theorem head_iff (s p : ByteArray) (h8 : 8 ≤ s.size) : s.extract 0 8 = headB p ↔ ∀ i, i < 8 → bt s i = bt (headB p) i := by
  constructor
  · intro h i hi
    rw [← h, bt_sub s 0 8 i h8 (by omega)]; simp
  · intro h
    apply ba_ext
    · rw [headB_size, ByteArray.size_extract]; omega
    · intro i hi
      rw [ByteArray.size_extract] at hi
      rw [bt_sub s 0 8 i h8 (by omega), Nat.zero_add]
      exact h i (by omega)
theorem bk4 (s : ByteArray) (hs : s.size = 4) : bkTo s 4 = bt s 0 + 256 * bt s 1 + 65536 * bt s 2 + 16777216 * bt s 3 := by
  have e0 : s.size - 1 - 0 = 3 := by omega
  have e1 : s.size - 1 - 1 = 2 := by omega
  have e2 : s.size - 1 - 2 = 1 := by omega
  have e3 : s.size - 1 - 3 = 0 := by omega
  simp only [bkTo, e0, e1, e2, e3]
  omega
theorem num4 {a b c d n : Nat} (ha : a < 256) (hb : b < 256) (hc : c < 256) (hd : d < 256) (hn : n < 4294967296) :
    a + 256 * b + 65536 * c + 16777216 * d = n ↔ a = n % 256 ∧ b = n / 256 % 256 ∧ c = n / 65536 % 256 ∧ d = n / 16777216 % 256 := by omega
theorem all8 {P : Nat → Prop} : (∀ i, i < 8 → P i) ↔ (P 0 ∧ P 1 ∧ P 2 ∧ P 3) ∧ (P 4 ∧ P 5 ∧ P 6 ∧ P 7) := by
  constructor
  · intro h; exact ⟨⟨h 0 (by omega), h 1 (by omega), h 2 (by omega), h 3 (by omega)⟩, h 4 (by omega), h 5 (by omega), h 6 (by omega), h 7 (by omega)⟩
  · rintro ⟨⟨h0, h1, h2, h3⟩, h4, h5, h6, h7⟩ i hi
    match i, hi with
    | 0, _ => exact h0
    | 1, _ => exact h1
    | 2, _ => exact h2
    | 3, _ => exact h3
    | 4, _ => exact h4
    | 5, _ => exact h5
    | 6, _ => exact h6
    | 7, _ => exact h7
theorem head_parts (s p : ByteArray) (h8 : 8 ≤ s.size) (hp : p.size < 4294967296) :
    s.extract 0 8 = headB p ↔ bkTo (s.extract 0 4) 4 = p.size ∧ bkTo (s.extract 4 8) 4 = crc p := by
  rw [head_iff s p h8, all8, bk4 (s.extract 0 4) (by rw [ByteArray.size_extract]; omega), bk4 (s.extract 4 8) (by rw [ByteArray.size_extract]; omega)]
  rw [bt_sub s 0 4 0 (by omega) (by omega), bt_sub s 0 4 1 (by omega) (by omega), bt_sub s 0 4 2 (by omega) (by omega), bt_sub s 0 4 3 (by omega) (by omega),
    bt_sub s 4 8 0 (by omega) (by omega), bt_sub s 4 8 1 (by omega) (by omega), bt_sub s 4 8 2 (by omega) (by omega), bt_sub s 4 8 3 (by omega) (by omega)]
  rw [num4 (bt_lt _ _) (bt_lt _ _) (bt_lt _ _) (bt_lt _ _) hp, num4 (bt_lt _ _) (bt_lt _ _) (bt_lt _ _) (bt_lt _ _) (crc_lt p)]
  simp only [bt_head p 0 (by omega), bt_head p 1 (by omega), bt_head p 2 (by omega), bt_head p 3 (by omega), bt_head p 4 (by omega), bt_head p 5 (by omega), bt_head p 6 (by omega), bt_head p 7 (by omega)]
  simp
theorem okB_short {s : ByteArray} (h : s.size < 8) : okB s = false := by
  unfold okB; exact decide_eq_false (fun hh => by omega)
theorem okB_iff {s : ByteArray} (h8 : 8 ≤ s.size) : okB s = true ↔ s.extract 0 8 = headB (s.extract 8 s.size) := by
  unfold okB; rw [decide_eq_true_iff]; exact ⟨fun h => h.2, fun h => ⟨h8, h⟩⟩
theorem openB_t {s : ByteArray} (h : okB s = true) : openB s = s.extract 8 s.size := if_pos h
theorem openB_f {s : ByteArray} (h : okB s = false) : openB s = ⟨#[]⟩ := by unfold openB; rw [h]; rfl
/-- What is sealed opens. -/
theorem seal_head (p : ByteArray) : (sealB p).extract 0 8 = headB p := by
  apply ba_ext
  · rw [ByteArray.size_extract, sealB_size, headB_size]; omega
  · intro i hi
    rw [ByteArray.size_extract, sealB_size] at hi
    rw [bt_sub _ 0 8 i (by rw [sealB_size]; omega) (by omega), Nat.zero_add]
    exact bt_app1 _ _ _ (by rw [headB_size]; omega)
theorem seal_rest (p : ByteArray) : (sealB p).extract 8 (sealB p).size = p := by
  apply ba_ext
  · rw [ByteArray.size_extract, sealB_size]; omega
  · intro i hi
    rw [ByteArray.size_extract, sealB_size] at hi
    rw [bt_sub _ 8 _ i (by rw [sealB_size]; omega) (by rw [sealB_size]; omega)]
    exact bt_app2' _ _ i 8 (headB_size p) (by omega)
theorem seal_ok (p : ByteArray) : okB (sealB p) = true := by
  rw [okB_iff (by rw [sealB_size]; omega), seal_rest, seal_head]
theorem seal_open (p : ByteArray) : openB (sealB p) = p := by rw [openB_t (seal_ok p), seal_rest]
/-- One byte turned: it does not open. -/
theorem turned_no (p t : ByteArray) (i : Nat) (ht : t.size = p.size + 8) (hi : i < t.size) (hd : bt t i ≠ bt (sealB p) i) (h : ∀ k, k < t.size → k ≠ i → bt t k = bt (sealB p) k) : okB t = false := by
  apply Bool.eq_false_iff.2
  intro hk
  rw [okB_iff (by omega), head_iff t _ (by omega)] at hk
  have hrest : ∀ k, k < p.size → bt (t.extract 8 t.size) k = bt t (8 + k) := fun k hk => bt_sub t 8 _ k (by omega) (by omega)
  have hsr : ∀ k, k < p.size → bt (sealB p) (8 + k) = bt p k := fun k hk => bt_app2' _ _ k 8 (headB_size p) hk
  have hsh : ∀ k, k < 8 → bt (sealB p) k = bt (headB p) k := fun k hk => bt_app1 _ _ _ (by rw [headB_size]; omega)
  have hz : (t.extract 8 t.size).size = p.size := by rw [ByteArray.size_extract]; omega
  by_cases h8 : i < 8
  · have hp : t.extract 8 t.size = p := ba_ext hz (fun k hk => by
      rw [hz] at hk
      rw [hrest k hk, h (8 + k) (by omega) (by omega), hsr k hk])
    rw [hp] at hk
    exact hd (by rw [hk i h8, hsh i h8])
  · obtain ⟨j, rfl⟩ : ∃ j, i = 8 + j := ⟨i - 8, by omega⟩
    have hc : crcTo (t.extract 8 t.size) p.size ≠ crcTo p p.size := by
      apply crcTo_ne (i := j) (by omega)
      · rw [hrest j (by omega)]
        rw [hsr j (by omega)] at hd
        exact hd
      · intro k hk hkj
        rw [hrest k hk, h (8 + k) (by omega) (by omega), hsr k hk]
    have hc2 : crc (t.extract 8 t.size) ≠ crc p := by
      unfold crc
      rw [hz]
      have := crcTo_lt (t.extract 8 t.size) p.size
      have := crcTo_lt p p.size
      omega
    have h4 : ∀ k, k < 8 → bt (headB (t.extract 8 t.size)) k = bt (headB p) k := fun k hk8 => by
      rw [← hk k hk8, h k (by omega) (by omega), hsh k hk8]
    apply hc2
    have g4 := h4 4 (by omega)
    have g5 := h4 5 (by omega)
    have g6 := h4 6 (by omega)
    have g7 := h4 7 (by omega)
    rw [bt_head _ 4 (by omega), bt_head _ 4 (by omega)] at g4
    rw [bt_head _ 5 (by omega), bt_head _ 5 (by omega)] at g5
    rw [bt_head _ 6 (by omega), bt_head _ 6 (by omega)] at g6
    rw [bt_head _ 7 (by omega), bt_head _ 7 (by omega)] at g7
    simp at g4 g5 g6 g7
    have l1 := crc_lt (t.extract 8 t.size)
    have l2 := crc_lt p
    generalize crc (t.extract 8 t.size) = x at *
    generalize crc p = y at *
    omega
/-- Without its last byte it does not open. -/
theorem short_no (p : ByteArray) : okB ((sealB p).extract 0 (p.size + 7)) = false := by
  have hz : ((sealB p).extract 0 (p.size + 7)).size = p.size + 7 := by rw [ByteArray.size_extract, sealB_size]; omega
  by_cases h0 : p.size = 0
  · exact okB_short (by omega)
  · apply Bool.eq_false_iff.2
    intro hk
    rw [okB_iff (by omega), head_iff _ _ (by omega)] at hk
    have hr : (((sealB p).extract 0 (p.size + 7)).extract 8 ((sealB p).extract 0 (p.size + 7)).size).size = p.size - 1 := by rw [ByteArray.size_extract]; omega
    have key : ∀ k, k < 4 → (p.size - 1) / 256 ^ k % 256 = p.size / 256 ^ k % 256 := fun k hk4 => by
      have h1 := hk k (by omega)
      rw [bt_head _ k (by omega), if_pos hk4, hr, bt_sub _ 0 _ k (by rw [sealB_size]; omega) (by omega), Nat.zero_add] at h1
      have h2 : bt (sealB p) k = bt (headB p) k := bt_app1 _ _ _ (by rw [headB_size]; omega)
      rw [h2, bt_head _ k (by omega), if_pos hk4] at h1
      exact h1.symm
    have := key 0 (by omega)
    simp at this
    omega
end Go.Proofs.Yteflnddphpjahaa.Sp
