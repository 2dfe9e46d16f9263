import Derived.Test.YteflnddphpjahaaProg
import Derived.Test.YteflnddphpjahaaClSeA
import Derived.Test.YteflnddphpjahaaClCom
import Derived.WalkKit
import Derived.Laws.BitsAllLaws
/-
  The walks of the two sums: strideref.Sum, seals.Sum.
-/
set_option linter.unusedVariables false
set_option linter.unusedSimpArgs false
set_option maxRecDepth 100000
namespace Go.Proofs.Yteflnddphpjahaa
open Go.RowKit

theorem xor_u32 (a b : Nat) (ha : a < 4294967296) (hb : b < 4294967296) : bits .xor .u32 (a : Int) (b : Int) = ((a ^^^ b : Nat) : Int) := u32_xor_nat a b ha hb

theorem not32 (a : Nat) (h : a < 4294967296) : bits .xor .u32 IntKind.u32.max (a : Int) = ((4294967295 - a : Nat) : Int) := by
  have h0 : IntKind.u32.max = ((4294967295 : Nat) : Int) := by decide
  have h1 := BitVec.allOnes_xor (x := BitVec.ofNat 32 a)
  have h2 := congrArg BitVec.toNat h1
  rw [BitVec.toNat_xor, BitVec.toNat_not, BitVec.toNat_allOnes, BitVec.toNat_ofNat, Nat.mod_eq_of_lt (by omega : a < 2 ^ 32)] at h2
  have h3 : 4294967295 ^^^ a = 4294967295 - a := h2
  rw [h0, xor_u32 _ _ (by omega) h, h3]
theorem and32 (a : Nat) (h : a < 4294967296) : bits .and .u32 (a : Int) 1 = (a : Int) % 2 := by
  have h1 := u32_and_nat a 1 h (by omega)
  rw [Nat.and_one_is_mod] at h1
  exact h1.trans (by omega)
theorem and32_f (a : Nat) (h : a < 4294967296) (p : a % 2 = 0) : (bits .and .u32 (a : Int) 1 == 1) = false := by
  rw [and32 a h]; simp; omega
theorem and32_t (a : Nat) (h : a < 4294967296) (p : a % 2 = 1) : (bits .and .u32 (a : Int) 1 == 1) = true := by
  rw [and32 a h]; simp; omega

set_option maxHeartbeats 1000000 in
theorem refSum_any (s : ByteArray) (w : World) (hs : s.size < 140737488355328) :
    Calls Try.prog 41 #[.string s] w fun e w' => e = .returned (.int .u32 (Sp.crc s)) ∧ w' = w := by
  go_enter Try.func41, Try.ntmps41
  go_wp2
  go_loopw [3, 4] (fun hh ii wr => ∃ i : Nat, i ≤ s.size ∧ ii = .int .i64 i ∧ hh = .int .u32 (Sp.crcTo s i) ∧ wr = w) (fun _ ii _ => s.size - (intOf ii).toNat)
  case atStart => exact ⟨0, by omega, rfl, rfl, rfl⟩
  case round =>
    obtain ⟨i, hi, rfl, rfl, rfl⟩ := hrel
    have hL := Sp.crcTo_lt s i
    by_cases c : i < s.size
    · generalize hH : Sp.crcTo s i = H at hL
      replace hH := hide hH
      have c1 : (i : Int) < (s.size : Int) := by omega
      go_wp2
      have hb := Sp.bt_of s i c
      have hb2 := Sp.bt_lt s i
      go_loopw [3, 5] (fun hh kk wj => ∃ k : Nat, k ≤ 8 ∧ kk = .int .i64 k ∧ hh = .int .u32 (Sp.csteps (H ^^^ Sp.bt s i) k) ∧ wj = wr) (fun _ kk _ => 8 - (intOf kk).toNat)
      case atStart =>
        refine ⟨0, by omega, rfl, ?_, rfl⟩
        have e : ((s[i].toNat : Nat) : Int) % 4294967296 = ((Sp.bt s i : Nat) : Int) := by rw [hb]; omega
        rw [e, xor_u32 _ _ hL (by omega)]; rfl
      case round =>
        obtain ⟨k, hk, rfl, rfl, rfl⟩ := hrel
        have hL2 := Sp.csteps_lt (Sp.xor_byte_lt hL hb2) k
        generalize hG : Sp.csteps (H ^^^ Sp.bt s i) k = G at hL2
        replace hG := hide hG
        clear hb hb2
        by_cases ck : k < 8
        · have ck1 : (k : Int) < 8 := by omega
          rcases Nat.mod_two_eq_zero_or_one G with p | p
          · have p1 : (G : Int) % 2 = 0 := by omega
            go_wp2
            go_roundw
            case rel =>
              refine ⟨k + 1, by omega, by go_num, ?_, by first | rfl | trivial⟩
              show _ = Value.int .u32 ((Sp.cstep (Sp.csteps (H ^^^ Sp.bt s i) k) : Nat) : Int)
              rw [unhide hG, Sp.cstep_even p]
              go_num
            case measure => simp [intOf]; omega
          · have p1 : (G : Int) % 2 = 1 := by omega
            go_wp2
            go_roundw
            case rel =>
              refine ⟨k + 1, by omega, by go_num, ?_, by first | rfl | trivial⟩
              show _ = Value.int .u32 ((Sp.cstep (Sp.csteps (H ^^^ Sp.bt s i) k) : Nat) : Int)
              rw [unhide hG, Sp.cstep_odd p, ← xor_u32 (G / 2) 3988292384 (by omega) (by omega)]
              rfl
            case measure => simp [intOf]; omega
        · have ck1 : ¬ (k : Int) < 8 := by omega
          go_wp2
          go_roundw
          case rel =>
            refine ⟨i + 1, by omega, by go_num, ?_, by first | rfl | trivial⟩
            have e8 : k = 8 := by omega
            subst e8
            show _ = Value.int .u32 ((Sp.csteps (Sp.crcTo s i ^^^ Sp.bt s i) 8 : Nat) : Int)
            rw [unhide hH, unhide hG]
          case measure => simp [intOf]; omega
    · have c1 : ¬ (i : Int) < (s.size : Int) := by omega
      have e : i = s.size := by omega
      subst e
      generalize hH : Sp.crcTo s s.size = H at hL
      replace hH := hide hH
      go_wp2
      go_ret
      refine ⟨?_, rfl⟩
      unfold Sp.crc
      rw [unhide hH]
      go_num

set_option maxHeartbeats 1000000 in
theorem sum_any (s : ByteArray) (w : World) (hs : s.size < 140737488355328) :
    Calls Try.prog 62 #[.string s] w fun e w' => e = .returned (.int .u32 (Sp.crc s)) ∧ w' = w := by
  go_enter Try.func62, Try.ntmps62
  go_wp2
  go_loopw [3, 8] (fun hh ii wr => ∃ i : Nat, i ≤ s.size ∧ ii = .int .i64 i ∧ hh = .int .u32 (Sp.crcTo s i) ∧ wr = w) (fun _ ii _ => s.size - (intOf ii).toNat)
  case atStart => exact ⟨0, by omega, rfl, rfl, rfl⟩
  case round =>
    obtain ⟨i, hi, rfl, rfl, rfl⟩ := hrel
    have hL := Sp.crcTo_lt s i
    by_cases c : i < s.size
    · generalize hH : Sp.crcTo s i = H at hL
      replace hH := hide hH
      have c1 : (i : Int) < (s.size : Int) := by omega
      go_wp2
      have hb := Sp.bt_of s i c
      have hb2 := Sp.bt_lt s i
      go_loopw [3, 17] (fun hh kk wj => ∃ k : Nat, k ≤ 8 ∧ kk = .int .i64 k ∧ hh = .int .u32 (Sp.csteps (H ^^^ Sp.bt s i) k) ∧ wj = wr) (fun _ kk _ => 8 - (intOf kk).toNat)
      case atStart =>
        refine ⟨0, by omega, rfl, ?_, rfl⟩
        have e : ((s[i].toNat : Nat) : Int) % 4294967296 = ((Sp.bt s i : Nat) : Int) := by rw [hb]; omega
        rw [e, xor_u32 _ _ hL (by omega)]; rfl
      case round =>
        obtain ⟨k, hk, rfl, rfl, rfl⟩ := hrel
        have hL2 := Sp.csteps_lt (Sp.xor_byte_lt hL hb2) k
        generalize hG : Sp.csteps (H ^^^ Sp.bt s i) k = G at hL2
        replace hG := hide hG
        clear hb hb2
        by_cases ck : k < 8
        · have ck1 : (k : Int) < 8 := by omega
          rcases Nat.mod_two_eq_zero_or_one G with p | p
          · have p1 := and32_f G hL2 p
            go_wp2
            go_roundw
            case rel =>
              refine ⟨k + 1, by omega, by go_num, ?_, by first | rfl | trivial⟩
              show _ = Value.int .u32 ((Sp.cstep (Sp.csteps (H ^^^ Sp.bt s i) k) : Nat) : Int)
              rw [unhide hG, Sp.cstep_even p]
              go_num
            case measure => simp [intOf]; omega
          · have p1 := and32_t G hL2 p
            go_wp2
            go_roundw
            case rel =>
              refine ⟨k + 1, by omega, by go_num, ?_, by first | rfl | trivial⟩
              show _ = Value.int .u32 ((Sp.cstep (Sp.csteps (H ^^^ Sp.bt s i) k) : Nat) : Int)
              rw [unhide hG, Sp.cstep_odd p, ← xor_u32 (G / 2) 3988292384 (by omega) (by omega)]
              rfl
            case measure => simp [intOf]; omega
        · have ck1 : ¬ (k : Int) < 8 := by omega
          go_wp2
          go_roundw
          case rel =>
            refine ⟨i + 1, by omega, by go_num, ?_, by first | rfl | trivial⟩
            have e8 : k = 8 := by omega
            subst e8
            show _ = Value.int .u32 ((Sp.csteps (Sp.crcTo s i ^^^ Sp.bt s i) 8 : Nat) : Int)
            rw [unhide hH, unhide hG]
          case measure => simp [intOf]; omega
    · have c1 : ¬ (i : Int) < (s.size : Int) := by omega
      have e : i = s.size := by omega
      subst e
      generalize hH : Sp.crcTo s s.size = H at hL
      replace hH := hide hH
      go_wp2
      go_ret
      refine ⟨?_, rfl⟩
      unfold Sp.crc
      rw [unhide hH]
      rw [not32 H hL]; rfl

end Go.Proofs.Yteflnddphpjahaa
