import Derived.Test.YteflnddphpjahaaClPlA
/-
  Plain facts for Seal: the sum of bytes, bit by bit; texts alike but for one byte have another sum.
-/
set_option linter.unusedVariables false
set_option linter.unusedSimpArgs false
namespace Go.Proofs.Yteflnddphpjahaa.Sp
open Go

/-- One bit of the sum. -/
def cstep (h : Nat) : Nat := if h % 2 = 1 then (h / 2) ^^^ 3988292384 else h / 2
def csteps (h : Nat) : Nat → Nat
  | 0 => h
  | k + 1 => cstep (csteps h k)
def crcTo (s : ByteArray) : Nat → Nat
  | 0 => 4294967295
  | k + 1 => csteps (crcTo s k ^^^ bt s k) 8
def crc (s : ByteArray) : Nat := 4294967295 - crcTo s s.size

theorem cstep_even {h : Nat} (e : h % 2 = 0) : cstep h = h / 2 := by
  unfold cstep; rw [if_neg (by omega)]
theorem cstep_odd {h : Nat} (e : h % 2 = 1) : cstep h = (h / 2) ^^^ 3988292384 := by
  unfold cstep; rw [if_pos e]
theorem cstep_lt {h : Nat} (l : h < 4294967296) : cstep h < 4294967296 := by
  unfold cstep; split
  · exact Nat.xor_lt_two_pow (n := 32) (by omega) (by omega)
  · omega
theorem csteps_lt {h : Nat} (l : h < 4294967296) (k : Nat) : csteps h k < 4294967296 := by
  induction k with
  | zero => exact l
  | succ k ih => exact cstep_lt ih
theorem xor_byte_lt {h b : Nat} (l : h < 4294967296) (m : b < 256) : h ^^^ b < 4294967296 :=
  Nat.xor_lt_two_pow (n := 32) (by omega) (by omega)
theorem crcTo_lt (s : ByteArray) (k : Nat) : crcTo s k < 4294967296 := by
  induction k with
  | zero => unfold crcTo; omega
  | succ k ih => exact csteps_lt (xor_byte_lt ih (bt_lt s k)) 8
theorem high {h : Nat} (l : h < 2147483648) : (h ^^^ 3988292384).testBit 31 = true := by
  rw [Nat.testBit_xor, Nat.testBit_lt_two_pow (i := 31) (by omega)]
  decide
theorem low {h : Nat} (l : h < 2147483648) : h.testBit 31 = false := Nat.testBit_lt_two_pow (i := 31) (by omega)
theorem xor_cancel {a b c : Nat} (h : a ^^^ c = b ^^^ c) : a = b := by
  have := congrArg (· ^^^ c) h
  simpa [Nat.xor_assoc] using this
theorem xor_cancel' {a b c : Nat} (h : c ^^^ a = c ^^^ b) : a = b := by
  rw [Nat.xor_comm c a, Nat.xor_comm c b] at h; exact xor_cancel h
theorem cstep_inj {a b : Nat} (la : a < 4294967296) (lb : b < 4294967296) (h : cstep a = cstep b) : a = b := by
  have ha2 : a / 2 < 2147483648 := by omega
  have hb2 : b / 2 < 2147483648 := by omega
  rcases Nat.mod_two_eq_zero_or_one a with pa | pa <;> rcases Nat.mod_two_eq_zero_or_one b with pb | pb
  · rw [cstep_even pa, cstep_even pb] at h; omega
  · rw [cstep_even pa, cstep_odd pb] at h
    have := high hb2; rw [← h, low ha2] at this; cases this
  · rw [cstep_odd pa, cstep_even pb] at h
    have := high ha2; rw [h, low hb2] at this; cases this
  · rw [cstep_odd pa, cstep_odd pb] at h
    have := xor_cancel h; omega
theorem csteps_inj {a b : Nat} (la : a < 4294967296) (lb : b < 4294967296) (k : Nat) (h : csteps a k = csteps b k) : a = b := by
  induction k with
  | zero => exact h
  | succ k ih => exact ih (cstep_inj (csteps_lt la k) (csteps_lt lb k) h)
/-- Two texts alike but for the byte at i: their sums differ. -/
theorem crcTo_pre {s t : ByteArray} {n : Nat} (h : ∀ k, k < n → bt s k = bt t k) : crcTo s n = crcTo t n := by
  induction n with
  | zero => rfl
  | succ n ih => unfold crcTo; rw [ih (fun k hk => h k (by omega)), h n (by omega)]
theorem crcTo_ne {s t : ByteArray} {i n : Nat} (hi : i < n) (hd : bt s i ≠ bt t i) (h : ∀ k, k < n → k ≠ i → bt s k = bt t k) : crcTo s n ≠ crcTo t n := by
  induction n with
  | zero => omega
  | succ n ih =>
    intro he
    unfold crcTo at he
    have he := csteps_inj (xor_byte_lt (crcTo_lt s n) (bt_lt s n)) (xor_byte_lt (crcTo_lt t n) (bt_lt t n)) 8 he
    by_cases hn : i = n
    · subst hn
      rw [crcTo_pre (fun k hk => h k (by omega) (by omega))] at he
      exact hd (xor_cancel' he)
    · rw [h n (by omega) (by omega)] at he
      exact ih (by omega) (fun k hk => h k (by omega)) (xor_cancel he)
/-- The lowest k bytes of a number, the lowest first. -/
def lek (n : Nat) : Nat → List UInt8
  | 0 => []
  | k + 1 => lek n k ++ [UInt8.ofNat (n / 256 ^ k % 256)]
theorem lek_length (n k : Nat) : (lek n k).length = k := by
  induction k with
  | zero => rfl
  | succ k ih => simp [lek, ih]
def leB (n k : Nat) : ByteArray := ⟨(lek n k).toArray⟩
theorem leB_size (n k : Nat) : (leB n k).size = k := by
  show (lek n k).toArray.size = k
  simp [lek_length]
/-- What Seal puts ahead of a payload; what it makes of one. -/
def headB (p : ByteArray) : ByteArray := leB p.size 4 ++ leB (crc p) 4
def sealB (p : ByteArray) : ByteArray := headB p ++ p
theorem headB_size (p : ByteArray) : (headB p).size = 8 := by simp [headB, leB_size]
theorem sealB_size (p : ByteArray) : (sealB p).size = p.size + 8 := by simp [sealB, headB_size]; omega
def okB (s : ByteArray) : Bool := decide (8 ≤ s.size ∧ s.extract 0 8 = headB (s.extract 8 s.size))
def openB (s : ByteArray) : ByteArray := if okB s = true then s.extract 8 s.size else ⟨#[]⟩
theorem crc_lt (s : ByteArray) : crc s < 4294967296 := by unfold crc; omega
/-- A text's number, the lowest byte first (d bytes from the end). -/
def bkTo (s : ByteArray) : Nat → Nat
  | 0 => 0
  | d + 1 => 256 * bkTo s d + bt s (s.size - 1 - d)
theorem bkTo_lt (s : ByteArray) (d : Nat) : bkTo s d < 256 ^ d := by
  induction d with
  | zero => simp [bkTo]
  | succ d ih =>
    have h := bt_lt s (s.size - 1 - d)
    unfold bkTo
    rw [Nat.pow_succ]
    generalize 256 ^ d = m at ih
    omega
end Go.Proofs.Yteflnddphpjahaa.Sp
