import Derived.Test.YteflnddphpjahaaDoorClRunB
import Derived.Test.YteflnddphpjahaaDoorClPrC
import Derived.Laws.BytesArg
import Derived.Deep.DeepMust
/-
  Runed's own functions: pick, encoded, decimal.
-/
set_option linter.unusedVariables false
set_option linter.unusedSimpArgs false
set_option maxRecDepth 100000
namespace Go.Proofs.YteflnddphpjahaaDoor
open Go.RowKit

theorem tmod_bd {a : Int} {n : Nat} (ha : 0 ≤ a) (hn : 0 < n) : ∃ r : Nat, a.tmod (n : Int) = (r : Int) ∧ r < n := by
  have h1 := Int.tmod_nonneg (n : Int) ha
  have h2 := Int.tmod_lt_of_pos a (show (0 : Int) < (n : Int) by omega)
  exact ⟨(a.tmod (n : Int)).toNat, by omega, by omega⟩
set_option maxHeartbeats 400000 in
theorem pick_any (c : Int) (n : Nat) (w : World) (h1 : -9223372036854775808 ≤ c) (h2 : c ≤ 9223372036854775807) (hn : 0 < n) (hn2 : n ≤ 9223372036854775807) :
    Calls Tryd.prog 10 #[.int .i64 c, .int .i64 n] w fun e w' => (∃ r : Nat, e = .returned (.int .i64 r) ∧ r < n) ∧ w' = w := by
  by_cases hc : c < 0
  · obtain ⟨r, hr, hlt⟩ := tmod_bd (a := -(c + 1)) (n := n) (by omega) hn
    have HR := hide hr
    clear hr
    go_enter Tryd.func10, Tryd.ntmps10
    go_wp2
    go_ret
    exact ⟨⟨r, by have h := unhide HR; rw [Int.neg_tmod] at h; rw [h]; rfl, hlt⟩, rfl⟩
  · obtain ⟨r, hr, hlt⟩ := tmod_bd (a := c) (n := n) (by omega) hn
    have HR := hide hr
    clear hr
    go_enter Tryd.func10, Tryd.ntmps10
    go_wp2
    go_ret
    exact ⟨⟨r, by have h := unhide HR; rw [Int.tmod_eq_emod_of_nonneg hc] at h; rw [h]; rfl, hlt⟩, rfl⟩

theorem cvb (w : World) (xs : List Int) : (convert 72 9 (.slice (some ⟨w.heap.size, 0, none⟩) xs.length xs.length)).run Tryd.prog (w.alloc (.cells (xs.map (Value.int .u8)).toArray 5)) = .ok (.string (strOfNums xs)) (w.alloc (.cells (xs.map (Value.int .u8)).toArray 5)) := by
  refine run_convert_bytes_arg _ 72 5 Tryd.underlying72 Tryd.underlying5 w.heap.size 0 xs.length xs.length xs rfl (fun i hi => ?_) 9 Tryd.underlying9
  rw [Nat.zero_add, World.cell?_alloc_mark]
  simp [List.getElem?_eq_getElem hi, List.getD]
theorem cv1 (w : World) (a : Int) : (convert 72 9 (.slice (some ⟨w.heap.size, 0, none⟩) 1 1)).run Tryd.prog (w.alloc (.cells #[.int .u8 a] 5)) = .ok (.string (strOfNums [a])) (w.alloc (.cells #[.int .u8 a] 5)) := cvb w [a]
theorem cv2 (w : World) (a b : Int) : (convert 72 9 (.slice (some ⟨w.heap.size, 0, none⟩) 2 2)).run Tryd.prog (w.alloc (.cells #[.int .u8 a, .int .u8 b] 5)) = .ok (.string (strOfNums [a, b])) (w.alloc (.cells #[.int .u8 a, .int .u8 b] 5)) := cvb w [a, b]
theorem cv3 (w : World) (a b c : Int) : (convert 72 9 (.slice (some ⟨w.heap.size, 0, none⟩) 3 3)).run Tryd.prog (w.alloc (.cells #[.int .u8 a, .int .u8 b, .int .u8 c] 5)) = .ok (.string (strOfNums [a, b, c])) (w.alloc (.cells #[.int .u8 a, .int .u8 b, .int .u8 c] 5)) := cvb w [a, b, c]
theorem cv4 (w : World) (a b c d : Int) : (convert 72 9 (.slice (some ⟨w.heap.size, 0, none⟩) 4 4)).run Tryd.prog (w.alloc (.cells #[.int .u8 a, .int .u8 b, .int .u8 c, .int .u8 d] 5)) = .ok (.string (strOfNums [a, b, c, d])) (w.alloc (.cells #[.int .u8 a, .int .u8 b, .int .u8 c, .int .u8 d] 5)) := cvb w [a, b, c, d]

set_option maxHeartbeats 1000000 in
theorem encoded_any (r : Nat) (w : World) (hr : r < 1114112) : Calls Tryd.prog 11 #[.int .i64 r] w fun e w' => (∃ b : ByteArray, e = .returned (.string b) ∧ b.data.toList = Sp.en r) ∧ Below w.heap.size w w' := by
  have h1 := cv1
  have h2 := cv2
  have h3 := cv3
  have h4 := cv4
  by_cases c1 : r < 128
  · have c1z : (r : Int) < 128 := by omega
    go_enter Tryd.func11, Tryd.ntmps11
    go_wp2
    go_ret
    exact ⟨⟨_, rfl, by unfold Sp.en; rw [if_pos c1]; simp [strOfNums]⟩, (Below.refl _ _).alloc (Nat.le_refl _) _⟩
  · have c1z : ¬ (r : Int) < 128 := by omega
    by_cases c2 : r < 2048
    · have c2z : (r : Int) < 2048 := by omega
      go_enter Tryd.func11, Tryd.ntmps11
      go_wp2
      go_ret
      have e1 : (192 + (r : Int) / 64).toNat = 192 + r / 64 := by omega
      have e2 : (128 + (r : Int) % 64).toNat = 128 + r % 64 := by omega
      exact ⟨⟨_, rfl, by unfold Sp.en; rw [if_neg c1, if_pos c2]; show [UInt8.ofNat (192 + (r : Int) / 64).toNat, UInt8.ofNat (128 + (r : Int) % 64).toNat] = _; rw [e1, e2]⟩, (Below.refl _ _).alloc (Nat.le_refl _) _⟩
    · have c2z : ¬ (r : Int) < 2048 := by omega
      by_cases c3 : r < 65536
      · have c3z : (r : Int) < 65536 := by omega
        go_enter Tryd.func11, Tryd.ntmps11
        go_wp2
        go_ret
        have e1 : (224 + (r : Int) / 4096).toNat = 224 + r / 4096 := by omega
        have e2 : (128 + (r : Int) / 64 % 64).toNat = 128 + r / 64 % 64 := by omega
        have e3 : (128 + (r : Int) % 64).toNat = 128 + r % 64 := by omega
        exact ⟨⟨_, rfl, by unfold Sp.en; rw [if_neg c1, if_neg c2, if_pos c3]; show [UInt8.ofNat (224 + (r : Int) / 4096).toNat, UInt8.ofNat (128 + (r : Int) / 64 % 64).toNat, UInt8.ofNat (128 + (r : Int) % 64).toNat] = _; rw [e1, e2, e3]⟩, (Below.refl _ _).alloc (Nat.le_refl _) _⟩
      · have c3z : ¬ (r : Int) < 65536 := by omega
        have hrz : (r : Int) < 1114112 := by omega
        go_enter Tryd.func11, Tryd.ntmps11
        go_wp2
        go_ret
        have e1 : (240 + (r : Int) / 262144).toNat = 240 + r / 262144 := by omega
        have e2 : (128 + (r : Int) / 4096 % 64).toNat = 128 + r / 4096 % 64 := by omega
        have e3 : (128 + (r : Int) / 64 % 64).toNat = 128 + r / 64 % 64 := by omega
        have e4 : (128 + (r : Int) % 64).toNat = 128 + r % 64 := by omega
        exact ⟨⟨_, rfl, by unfold Sp.en; rw [if_neg c1, if_neg c2, if_neg c3]; show [UInt8.ofNat (240 + (r : Int) / 262144).toNat, UInt8.ofNat (128 + (r : Int) / 4096 % 64).toNat, UInt8.ofNat (128 + (r : Int) / 64 % 64).toNat, UInt8.ofNat (128 + (r : Int) % 64).toNat] = _; rw [e1, e2, e3, e4]⟩, (Below.refl _ _).alloc (Nat.le_refl _) _⟩

set_option maxHeartbeats 1000000 in
theorem decimal_any (n : Nat) (w : World) (hn : n < 100) : Calls Tryd.prog 12 #[.int .i64 n] w fun e w' => (∃ b : ByteArray, e = .returned (.string b) ∧ b.data.toList = Sp.dm n) ∧ Below w.heap.size w w' := by
  have h1 := cv1
  go_enter Tryd.func12, Tryd.ntmps12
  go_wp2
  go_loopw [0, 3] (fun u v wr => ∃ (k : Nat) (t : ByteArray), u = .int .i64 k ∧ v = .string t ∧ Below w.heap.size w wr ∧ Hid ((k = n ∧ t.data.toList = []) ∨ (9 < n ∧ k = n / 10 ∧ t.data.toList = [UInt8.ofNat (48 + n % 10)])) ∧ k < 100 ∧ t.size ≤ 1) (fun u _ _ => (intOf u).toNat)
  case atStart => exact ⟨n, ⟨#[]⟩, rfl, rfl, Below.refl _ _, Or.inl ⟨rfl, rfl⟩, hn, by decide⟩
  case round =>
    obtain ⟨k, t, rfl, rfl, hb, HK, hk, ht⟩ := hrel
    have hz := strOfNums_size
    by_cases c1 : 9 < k
    · have c1z : (9 : Int) < (k : Int) := by omega
      go_wp2
      go_roundw
      case rel =>
        have ht0 : t.size = 0 := by
          rcases unhide HK with ⟨_, e2⟩ | ⟨_, e2, _⟩
          · rw [← ByteArray.size_data, ← Array.length_toList, e2]; rfl
          · omega
        refine ⟨k / 10, _, by go_num, rfl, hb.trans ((Below.refl _ _).alloc hb.size _), ?_, by omega, by rw [ByteArray.size_append, hz, ht0]; simp⟩
        rcases unhide HK with ⟨e1, e2⟩ | ⟨e1, e2, e3⟩
        · subst e1
          have e4 : (48 + (k : Int) % 10).toNat = 48 + k % 10 := by omega
          exact Or.inr ⟨c1, rfl, by rw [ByteArray.data_append, Array.toList_append, e2]; show [UInt8.ofNat (48 + (k : Int) % 10).toNat] ++ [] = _; rw [e4]; rfl⟩
        · omega
      case measure => simp [intOf]; omega
    · have c1z : ¬ (9 : Int) < (k : Int) := by omega
      go_wp2
      go_ret
      have e4 : (48 + (k : Int)).toNat = 48 + k := by omega
      refine ⟨⟨_, rfl, ?_⟩, hb.trans ((Below.refl _ _).alloc hb.size _)⟩
      rw [ByteArray.data_append, Array.toList_append]
      show [UInt8.ofNat (48 + (k : Int)).toNat] ++ _ = _
      rw [e4]
      unfold Sp.dm
      rcases unhide HK with ⟨e1, e2⟩ | ⟨e1, e2, e3⟩
      · subst e1
        rw [if_pos (by omega), e2]; rfl
      · rw [if_neg (by omega), e3, e2]; rfl
end Go.Proofs.YteflnddphpjahaaDoor
