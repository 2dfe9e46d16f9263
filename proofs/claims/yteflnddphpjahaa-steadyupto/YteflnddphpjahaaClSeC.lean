import Derived.Test.YteflnddphpjahaaClSeB
import Derived.Test.YteflnddphpjahaaClSeD
import Derived.Laws.BytesArg
import Derived.Deep.DeepMust
/-
  The walks of strideref's Bytes, Back, Seal, Open.
-/
set_option linter.unusedVariables false
set_option linter.unusedSimpArgs false
set_option maxRecDepth 100000
namespace Go.Proofs.Yteflnddphpjahaa
open Go.RowKit

theorem scvb (w : World) (xs : List Int) : (convert 27 9 (.slice (some ⟨w.heap.size, 0, none⟩) xs.length xs.length)).run Try.prog (w.alloc (.cells (xs.map (Value.int .u8)).toArray 5)) = .ok (.string (strOfNums xs)) (w.alloc (.cells (xs.map (Value.int .u8)).toArray 5)) := by
  refine run_convert_bytes_arg _ 27 5 Try.underlying27 Try.underlying5 w.heap.size 0 xs.length xs.length xs rfl (fun i hi => ?_) 9 Try.underlying9
  rw [Nat.zero_add, World.cell?_alloc_mark]
  simp [List.getElem?_eq_getElem hi, List.getD]
theorem scv1 (w : World) (a : Int) : (convert 27 9 (.slice (some ⟨w.heap.size, 0, none⟩) 1 1)).run Try.prog (w.alloc (.cells #[.int .u8 a] 5)) = .ok (.string (strOfNums [a])) (w.alloc (.cells #[.int .u8 a] 5)) := scvb w [a]

theorem leB_next (n k : Nat) (m : Int) (h : m = ((n / 256 ^ k % 256 : Nat) : Int)) : Sp.leB n k ++ strOfNums [m] = Sp.leB n (k + 1) := by
  have h2 : m.toNat = n / 256 ^ k % 256 := by rw [h]; exact Int.toNat_natCast _
  apply ByteArray.ext
  rw [ByteArray.data_append]
  simp [Sp.leB, Sp.lek, strOfNums, h2]

set_option maxHeartbeats 1000000 in
theorem refBytes4 (n : Nat) (w : World) (hn : n < 18446744073709551616) : Calls Try.prog 40 #[.int .u64 n, .int .i64 4] w fun e w' => e = .returned (.string (Sp.leB n 4)) ∧ Below w.heap.size w w' := by
  have h1 := scv1
  go_enter Try.func40, Try.ntmps40
  go_wp2
  go_loopw [0, 5, 6] (fun nn ss ii wr => ∃ k : Nat, k ≤ 4 ∧ ii = .int .i64 k ∧ nn = .int .u64 ((n / 256 ^ k : Nat) : Int) ∧ ss = .string (Sp.leB n k) ∧ Below w.heap.size w wr) (fun _ _ ii _ => 4 - (intOf ii).toNat)
  case atStart => exact ⟨0, by omega, rfl, by simp, rfl, Below.refl _ _⟩
  case round =>
    obtain ⟨k, hk, rfl, rfl, rfl, hb⟩ := hrel
    have hz := Nat.le_of_eq (Sp.leB_size n k)
    have hy := strOfNums_size
    have hm : n / 256 ^ k < 18446744073709551616 := Nat.lt_of_le_of_lt (Nat.div_le_self _ _) hn
    generalize hM : n / 256 ^ k = M at hm
    generalize hS : Sp.leB n k = S at hz
    replace hM := hide hM
    replace hS := hide hS
    by_cases c : k < 4
    · have c1 : (k : Int) < 4 := by omega
      go_wp2
      go_roundw
      case rel =>
        refine ⟨k + 1, by omega, by go_num, ?_, ?_, hb.trans ((Below.refl _ _).alloc hb.size _)⟩
        · rw [Nat.pow_succ, ← Nat.div_div_eq_div_mul, unhide hM]; go_num
        · refine congrArg Value.string ?_
          rw [← unhide hS]
          exact leB_next n k _ (by rw [unhide hM]; omega)
      case measure => simp [intOf]; omega
    · have c1 : ¬ (k : Int) < 4 := by omega
      have e : k = 4 := by omega
      subst e
      go_wp2
      go_ret
      exact ⟨by rw [unhide hS]; rfl, hb⟩

set_option maxHeartbeats 1000000 in
theorem refBack4 (s : ByteArray) (w : World) (hs : s.size = 4) : Calls Try.prog 42 #[.string s] w fun e w' => e = .returned (.int .u64 (Sp.bkTo s 4)) ∧ w' = w := by
  go_enter Try.func42, Try.ntmps42
  go_wp2
  go_loopw [3, 4] (fun nn ii wr => ∃ (k : Nat) (m : Int), k ≤ 4 ∧ ii = .int .i64 m ∧ m = 3 - (k : Int) ∧ nn = .int .u64 (Sp.bkTo s k) ∧ wr = w) (fun _ ii _ => (intOf ii + 1).toNat)
  case atStart => exact ⟨0, 3, by omega, rfl, rfl, rfl, rfl⟩
  case round =>
    obtain ⟨k, m, hk, rfl, hm, rfl, rfl⟩ := hrel
    have hL : Sp.bkTo s k < 4294967296 := Nat.lt_of_lt_of_le (Sp.bkTo_lt s k) (Nat.pow_le_pow_right (by omega) hk)
    generalize hG : Sp.bkTo s k = G at hL
    replace hG := hide hG
    by_cases c : k < 4
    · obtain ⟨j, hjm, hj0, hjk⟩ : ∃ j : Nat, m = (j : Int) ∧ j + k = 3 ∧ Hid (j + k = 3) := ⟨3 - k, by omega, by omega, hide (by omega)⟩
      subst hjm
      have c1 : 0 ≤ (j : Int) := by omega
      have hj : j < s.size := by omega
      have hb := Sp.bt_of s j hj
      have hb2 := Sp.bt_lt s j
      have hs' : s.size ≤ 4 := by omega
      have HS := hide hs
      clear hs hm hj0
      go_wp2
      go_roundw
      case rel =>
        have hjk := unhide hjk
        have hs := unhide HS
        refine ⟨k + 1, (j : Int) - 1, by omega, by go_num, by omega, ?_, by first | rfl | trivial⟩
        have ej : s.size - 1 - k = j := by omega
        unfold Sp.bkTo
        rw [unhide hG, ej, ← hb]
        go_num
      case measure => simp [intOf] <;> omega
    · have c1 : ¬ 0 ≤ m := by omega
      have e : k = 4 := by omega
      subst e
      go_wp2
      go_ret
      exact ⟨by rw [unhide hG]; rfl, rfl⟩

set_option maxHeartbeats 1000000 in
theorem refSeal_any (p : ByteArray) (w : World) (hp : p.size < 140737488355328) : Calls Try.prog 25 #[.string p] w fun e w' => e = .returned (.string (Sp.sealB p)) ∧ Below w.heap.size w w' := by
  have hc := Sp.crc_lt p
  go_enter Try.func25, Try.ntmps25
  go_wp2_with fail
  refine (refBytes4 p.size _ (by omega)).mono ?_
  rintro e w1 ⟨rfl, hb1⟩
  go_wp2_with fail
  refine (refSum_any p _ (by omega)).mono ?_
  rintro e w2 ⟨rfl, rfl⟩
  go_wp2_with fail
  refine (refBytes4 (Sp.crc p) _ (by omega)).mono ?_
  rintro e w3 ⟨rfl, hb3⟩
  have z1 := Nat.le_of_eq (Sp.leB_size p.size 4)
  have z2 := Nat.le_of_eq (Sp.leB_size (Sp.crc p) 4)
  go_wp2
  go_ret
  exact ⟨rfl, hb1.trans (hb3.mono hb1.size)⟩

theorem str_ne {a b : Nat} (h : a ≠ b) : ((a : Int) != (b : Int)) = true := by simp; omega
theorem str_eq {a b : Nat} (h : a = b) : ((a : Int) != (b : Int)) = false := by simp; omega

set_option maxHeartbeats 1000000 in
theorem refOpen_any (s : ByteArray) (w : World) (hs : s.size < 4294967296) : Calls Try.prog 26 #[.string s] w fun e w' => e = .returned (.tuple #[.string (Sp.openB s), .bool (Sp.okB s)]) ∧ w' = w := by
  by_cases c : s.size < 8
  · have c1 : (s.size : Int) < 8 := by omega
    have h1 := Sp.okB_short c
    rw [Sp.openB_f h1, h1]
    clear h1 c
    go_enter Try.func26, Try.ntmps26
    go_wp2
    go_ret2
    exact ⟨rfl, rfl⟩
  · have c1 : ¬ (s.size : Int) < 8 := by omega
    have hpz : (s.extract 8 s.size).size ≤ 4294967295 := by rw [ByteArray.size_extract]; omega
    have hk := Sp.okB_iff (s := s) (by omega)
    rw [Sp.head_parts s _ (by omega) (by omega)] at hk
    have e4 : (s.extract 0 4).size = 4 := by rw [ByteArray.size_extract]; omega
    have e8 : (s.extract 4 8).size = 4 := by rw [ByteArray.size_extract]; omega
    have r4 := refBack4 (s.extract 0 4) w e4
    have r8 := refBack4 (s.extract 4 8) w e8
    have rs := refSum_any (s.extract 8 s.size) w (by omega)
    have l4 : Sp.bkTo (s.extract 0 4) 4 < 4294967296 := Sp.bkTo_lt _ 4
    have l8 : Sp.bkTo (s.extract 4 8) 4 < 4294967296 := Sp.bkTo_lt _ 4
    have lc := Sp.crc_lt (s.extract 8 s.size)
    have hop := fun (h : Sp.okB s = true) => Sp.openB_t h
    have hof := fun (h : Sp.okB s = false) => Sp.openB_f h
    have hpe : (s.extract 8 s.size).size = s.size - 8 := by rw [ByteArray.size_extract]; omega
    rw [hpe] at hk
    generalize Sp.bkTo (s.extract 0 4) 4 = A at hk r4 l4
    generalize Sp.bkTo (s.extract 4 8) 4 = B at hk r8 l8
    clear e4 e8 hpe hpz
    by_cases q1 : A = s.size - 8
    · have t1 := str_eq q1
      have lA : A = s.size - 8 := q1
      by_cases q2 : B = Sp.crc (s.extract 8 s.size)
      · have h1 : Sp.okB s = true := hk.2 ⟨q1, q2⟩
        rw [h1, hop h1]
        have t2 := str_eq q2
        clear hk hop hof h1 q1 q2 lA
        go_enter Try.func26, Try.ntmps26
        go_wp2_with fail
        refine r4.mono ?_
        rintro e w1 ⟨rfl, rfl⟩
        clear r4
        go_wp2_with fail
        refine r8.mono ?_
        rintro e w1 ⟨rfl, rfl⟩
        clear r8
        go_wp2_with fail
        refine rs.mono ?_
        rintro e w1 ⟨rfl, rfl⟩
        clear rs
        go_wp2
        go_ret2
        exact ⟨rfl, rfl⟩
      · have h1 : Sp.okB s = false := Bool.eq_false_iff.2 (fun h => q2 (hk.1 h).2)
        rw [h1, hof h1]
        have t2 := str_ne q2
        clear hk hop hof h1 q1 q2 lA
        go_enter Try.func26, Try.ntmps26
        go_wp2_with fail
        refine r4.mono ?_
        rintro e w1 ⟨rfl, rfl⟩
        clear r4
        go_wp2_with fail
        refine r8.mono ?_
        rintro e w1 ⟨rfl, rfl⟩
        clear r8
        go_wp2_with fail
        refine rs.mono ?_
        rintro e w1 ⟨rfl, rfl⟩
        clear rs
        go_wp2
        go_ret2
        exact ⟨rfl, rfl⟩
    · have h1 : Sp.okB s = false := Bool.eq_false_iff.2 (fun h => q1 (hk.1 h).1)
      rw [h1, hof h1]
      have t1 := str_ne q1
      clear hk hop hof h1 q1 r8 rs
      go_enter Try.func26, Try.ntmps26
      go_wp2_with fail
      refine r4.mono ?_
      rintro e w1 ⟨rfl, rfl⟩
      clear r4
      go_wp2
      go_ret2
      exact ⟨rfl, rfl⟩
end Go.Proofs.Yteflnddphpjahaa
