import GoSem.Core.Utf8
import Derived.Lib.DecodeN
/-
  Plain facts: bytes of a text, the rune that begins at a place (no program in this text).
-/
set_option linter.unusedVariables false
set_option linter.unusedSimpArgs false
namespace Go.Proofs.Yteflnddphpjahaa.Sp
open Go

/-- The byte at a place (0 behind the end). -/
def bt (s : ByteArray) (i : Nat) : Nat := (s.get! i).toNat
theorem bt_lt (s : ByteArray) (i : Nat) : bt s i < 256 := (s.get! i).toNat_lt
theorem bt_of (s : ByteArray) (i : Nat) (h : i < s.size) : (s[i]'h).toNat = bt s i := by
  unfold bt
  cases s with | mk d =>
  show _ = (d[i]!).toNat
  rw [getElem!_pos d i h]; rfl

/-- Does the byte at a place go on with a rune? -/
def moreB (s : ByteArray) (i : Nat) : Bool := decide (i < s.size ∧ 128 ≤ bt s i ∧ bt s i < 192)
def moreV (s : ByteArray) (i : Nat) : Int := if moreB s i = true then (bt s i : Int) - 128 else 0
theorem moreB_true {s : ByteArray} {i : Nat} (h : moreB s i = true) : i < s.size ∧ 128 ≤ bt s i ∧ bt s i < 192 := by
  simpa [moreB] using h
theorem moreB_false {s : ByteArray} {i : Nat} (h : moreB s i = false) : ¬ (i < s.size ∧ 128 ≤ bt s i ∧ bt s i < 192) := by
  simpa [moreB] using h
theorem moreV_true {s : ByteArray} {i : Nat} (h : moreB s i = true) : moreV s i = (bt s i : Int) - 128 := if_pos h
theorem moreV_false {s : ByteArray} {i : Nat} (h : moreB s i = false) : moreV s i = 0 := by unfold moreV; rw [h]; rfl

/-- The rune at a place and its bytes; nothing, where there is none. -/
def refRune (s : ByteArray) (i : Nat) : Int × Int :=
  if Utf8.decode s i = (65533, 1) then (0, 0) else (((Utf8.decode s i).1 : Int), ((Utf8.decode s i).2 : Int))

/-- What is gathered of a rune behind its first byte and k - 1 more. -/
def acc (s : ByteArray) (i : Nat) (r0 : Int) : Nat → Int
  | 0 => r0
  | k + 1 => 64 * acc s i r0 k + moreV s (i + (k + 1))

theorem moreV_bd (s : ByteArray) (i : Nat) : 0 ≤ moreV s i ∧ moreV s i ≤ 63 := by
  cases h : moreB s i with
  | true => have := moreB_true h; rw [moreV_true h]; omega
  | false => rw [moreV_false h]; omega
theorem acc_bd (s : ByteArray) (i : Nat) (r0 : Int) (h0 : 0 ≤ r0) (h1 : r0 ≤ 31) (k : Nat) (hk : k ≤ 3) : 0 ≤ acc s i r0 k ∧ acc s i r0 k ≤ 8388607 := by
  have b1 := moreV_bd s (i + 1)
  have b2 := moreV_bd s (i + 2)
  have b3 := moreV_bd s (i + 3)
  match k, hk with
  | 0, _ => simp only [acc]; omega
  | 1, _ => simp only [acc, Nat.zero_add, Nat.reduceAdd]; omega
  | 2, _ => simp only [acc, Nat.zero_add, Nat.reduceAdd]; omega
  | 3, _ => simp only [acc, Nat.zero_add, Nat.reduceAdd]; omega
theorem acc_succ (s : ByteArray) (i : Nat) (r0 : Int) (k : Nat) : acc s i r0 (k + 1) = 64 * acc s i r0 k + moreV s (i + (k + 1)) := rfl

theorem dec (s : ByteArray) (i : Nat) : Utf8.decode s i = Lib.decodeN (s.size - i) (bt s i) (bt s (i + 1)) (bt s (i + 2)) (bt s (i + 3)) := Lib.decode_at s i

theorem ref_ascii {s : ByteArray} {i : Nat} (h : bt s i < 128) : refRune s i = ((bt s i : Int), 1) := by
  unfold refRune; rw [dec]; simp only [Lib.decodeN, h, if_true]
  rw [if_neg]; · rfl
  intro e; have := congrArg Prod.fst e; simp only at this; omega

theorem ref_none {s : ByteArray} {i : Nat} (h : (128 ≤ bt s i ∧ bt s i < 192) ∨ 248 ≤ bt s i) : refRune s i = (0, 0) := by
  have hb := bt_lt s i
  unfold refRune; rw [dec, if_pos]
  unfold Lib.decodeN
  rw [if_neg (by omega), if_neg (by omega), if_neg (by omega), if_neg (by omega)]

theorem ref_bad2 {s : ByteArray} {i : Nat} (hi : i < s.size) (h : 192 ≤ bt s i) (h' : bt s i < 224) (hm : moreB s (i + 1) = false) : refRune s i = (0, 0) := by
  have hm := moreB_false hm
  have hb := bt_lt s (i + 1)
  unfold refRune; rw [dec, if_pos]
  unfold Lib.decodeN
  rw [if_neg (by omega), if_neg (by omega), if_neg (by omega), if_neg (by omega)]

theorem ref_bad3 {s : ByteArray} {i : Nat} (hi : i < s.size) (h : 224 ≤ bt s i) (h' : bt s i < 240) (hm : moreB s (i + 1) = false ∨ moreB s (i + 2) = false) : refRune s i = (0, 0) := by
  have hb := bt_lt s (i + 1)
  have hb2 := bt_lt s (i + 2)
  unfold refRune; rw [dec, if_pos]
  unfold Lib.decodeN
  rcases hm with hm | hm <;> have hm := moreB_false hm <;>
  rw [if_neg (by omega), if_neg (by omega), if_neg (by omega), if_neg (by omega)]

theorem ref_bad4 {s : ByteArray} {i : Nat} (hi : i < s.size) (h : 240 ≤ bt s i) (h' : bt s i < 248) (hm : moreB s (i + 1) = false ∨ moreB s (i + 2) = false ∨ moreB s (i + 3) = false) : refRune s i = (0, 0) := by
  have hb := bt_lt s (i + 1)
  have hb2 := bt_lt s (i + 2)
  have hb3 := bt_lt s (i + 3)
  unfold refRune; rw [dec, if_pos]
  unfold Lib.decodeN
  rcases hm with hm | hm | hm <;> have hm := moreB_false hm <;>
  rw [if_neg (by omega), if_neg (by omega), if_neg (by omega), if_neg (by omega)]

theorem pair_ne {a : Nat} {n : Nat} (h : n ≠ 1) : ¬ ((a, n) = ((65533 : Nat), (1 : Nat))) := fun e => h (congrArg Prod.snd e)

theorem ref_2 {s : ByteArray} {i : Nat} (hi : i < s.size) (h : 192 ≤ bt s i) (h' : bt s i < 224) (h1 : moreB s (i + 1) = true) :
    refRune s i = if acc s i ((bt s i : Int) - 192) 1 < 128 ∨ acc s i ((bt s i : Int) - 192) 1 > 1114111 ∨ (55296 ≤ acc s i ((bt s i : Int) - 192) 1 ∧ acc s i ((bt s i : Int) - 192) 1 < 57344) then (0, 0) else (acc s i ((bt s i : Int) - 192) 1, 2) := by
  have g1 := moreB_true h1
  have e : acc s i ((bt s i : Int) - 192) 1 = ((bt s i % 32 * 64 + bt s (i + 1) % 64 : Nat) : Int) := by
    simp only [acc, moreV_true h1]; omega
  rw [e]
  have hd := dec s i
  unfold Lib.decodeN at hd
  rw [if_neg (by omega), if_pos (by omega)] at hd
  unfold refRune
  by_cases hc : bt s i % 32 * 64 + bt s (i + 1) % 64 ≥ 128
  · rw [if_pos hc] at hd
    rw [hd, if_neg (pair_ne (by omega)), if_neg (by omega)]; rfl
  · rw [if_neg hc] at hd
    rw [hd, if_pos rfl, if_pos (by omega)]

theorem ref_3 {s : ByteArray} {i : Nat} (hi : i < s.size) (h : 224 ≤ bt s i) (h' : bt s i < 240) (h1 : moreB s (i + 1) = true) (h2 : moreB s (i + 2) = true) :
    refRune s i = if acc s i ((bt s i : Int) - 224) 2 < 2048 ∨ acc s i ((bt s i : Int) - 224) 2 > 1114111 ∨ (55296 ≤ acc s i ((bt s i : Int) - 224) 2 ∧ acc s i ((bt s i : Int) - 224) 2 < 57344) then (0, 0) else (acc s i ((bt s i : Int) - 224) 2, 3) := by
  have g1 := moreB_true h1
  have g2 := moreB_true h2
  have e : acc s i ((bt s i : Int) - 224) 2 = ((bt s i % 16 * 4096 + bt s (i + 1) % 64 * 64 + bt s (i + 2) % 64 : Nat) : Int) := by
    simp only [acc, moreV_true h1, moreV_true h2]; omega
  rw [e]
  have hd := dec s i
  unfold Lib.decodeN at hd
  rw [if_neg (by omega), if_neg (by omega), if_pos (by omega)] at hd
  unfold refRune
  by_cases hc : bt s i % 16 * 4096 + bt s (i + 1) % 64 * 64 + bt s (i + 2) % 64 ≥ 2048 ∧ (bt s i % 16 * 4096 + bt s (i + 1) % 64 * 64 + bt s (i + 2) % 64 < 55296 ∨ (57344 ≤ bt s i % 16 * 4096 + bt s (i + 1) % 64 * 64 + bt s (i + 2) % 64 ∧ bt s i % 16 * 4096 + bt s (i + 1) % 64 * 64 + bt s (i + 2) % 64 ≤ 1114111))
  · rw [if_pos hc] at hd
    rw [hd, if_neg (pair_ne (by omega)), if_neg (by omega)]; rfl
  · rw [if_neg hc] at hd
    rw [hd, if_pos rfl, if_pos (by omega)]

theorem ref_4 {s : ByteArray} {i : Nat} (hi : i < s.size) (h : 240 ≤ bt s i) (h' : bt s i < 248) (h1 : moreB s (i + 1) = true) (h2 : moreB s (i + 2) = true) (h3 : moreB s (i + 3) = true) :
    refRune s i = if acc s i ((bt s i : Int) - 240) 3 < 65536 ∨ acc s i ((bt s i : Int) - 240) 3 > 1114111 ∨ (55296 ≤ acc s i ((bt s i : Int) - 240) 3 ∧ acc s i ((bt s i : Int) - 240) 3 < 57344) then (0, 0) else (acc s i ((bt s i : Int) - 240) 3, 4) := by
  have g1 := moreB_true h1
  have g2 := moreB_true h2
  have g3 := moreB_true h3
  have e : acc s i ((bt s i : Int) - 240) 3 = ((bt s i % 8 * 262144 + bt s (i + 1) % 64 * 4096 + bt s (i + 2) % 64 * 64 + bt s (i + 3) % 64 : Nat) : Int) := by
    simp only [acc, moreV_true h1, moreV_true h2, moreV_true h3]; omega
  rw [e]
  have hd := dec s i
  unfold Lib.decodeN at hd
  rw [if_neg (by omega), if_neg (by omega), if_neg (by omega), if_pos (by omega)] at hd
  unfold refRune
  by_cases hc : bt s i % 8 * 262144 + bt s (i + 1) % 64 * 4096 + bt s (i + 2) % 64 * 64 + bt s (i + 3) % 64 ≥ 65536 ∧ (bt s i % 8 * 262144 + bt s (i + 1) % 64 * 4096 + bt s (i + 2) % 64 * 64 + bt s (i + 3) % 64 < 55296 ∨ (57344 ≤ bt s i % 8 * 262144 + bt s (i + 1) % 64 * 4096 + bt s (i + 2) % 64 * 64 + bt s (i + 3) % 64 ∧ bt s i % 8 * 262144 + bt s (i + 1) % 64 * 4096 + bt s (i + 2) % 64 * 64 + bt s (i + 3) % 64 ≤ 1114111))
  · rw [if_pos hc] at hd
    rw [hd, if_neg (pair_ne (by omega)), if_neg (by omega)]; rfl
  · rw [if_neg hc] at hd
    rw [hd, if_pos rfl, if_pos (by omega)]
end Go.Proofs.Yteflnddphpjahaa.Sp
