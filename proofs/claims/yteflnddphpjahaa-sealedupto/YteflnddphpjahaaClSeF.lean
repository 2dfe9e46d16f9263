import Derived.Test.YteflnddphpjahaaClSeE
/-
  The law Sealed.
-/
set_option linter.unusedVariables false
set_option linter.unusedSimpArgs false
set_option maxRecDepth 100000
namespace Go.Proofs.Yteflnddphpjahaa
open Go.RowKit

set_option maxHeartbeats 1000000 in
theorem isealed_any (s : ByteArray) (w : World) (hs : s.size ≤ 1048576) : Calls Try.prog 9 #[.string s] w fun e w' => e = .returned (.bool true) ∧ Below w.heap.size w w' := by
  have hz := Nat.le_of_eq (Sp.sealB_size s)
  go_enter Try.func9, Try.ntmps9
  go_wp2_with fail
  refine (seal_any s _ (by omega)).mono ?_
  rintro e w1 ⟨rfl, hb1⟩
  go_wp2_with fail
  refine (refSeal_any s _ (by omega)).mono ?_
  rintro e w2 ⟨rfl, hb2⟩
  have hb2 := hb1.trans (hb2.mono hb1.size)
  clear hb1
  go_wp2_with fail
  refine (open_any s _ (by omega)).mono ?_
  rintro e w3 ⟨rfl, hb3⟩
  have hb3 := hb2.trans (hb3.mono hb2.size)
  clear hb2
  go_wp2_with fail
  refine (refOpen_any s _ (by omega)).mono ?_
  rintro e w4 ⟨rfl, rfl⟩
  go_wp2_with fail
  refine (open_any (Sp.sealB s) _ (by omega)).mono ?_
  rintro e w5 ⟨rfl, hb5⟩
  have hb5 := hide (hb3.trans (hb5.mono hb3.size))
  clear hb3
  rw [Sp.seal_open, Sp.seal_ok]
  have t1 : ((Sp.sealB s).toList == (Sp.sealB s).toList) = true := ba_eq rfl
  have t2 : ((Sp.openB s).toList == (Sp.openB s).toList) = true := ba_eq rfl
  have t3 : (s.toList == s.toList) = true := ba_eq rfl
  have t4 : (Sp.okB s == Sp.okB s) = true := by simp
  go_wp2
  go_ret
  exact ⟨rfl, unhide hb5⟩
set_option maxHeartbeats 1000000 in
theorem sealed_any (s : ByteArray) (w : World) (hs : s.size ≤ 1048576) : Calls Try.prog 4 #[.string s] w fun e w' => e = .returned (.bool true) ∧ Below w.heap.size w w' := by
  go_enter Try.func4, Try.ntmps4
  go_wp2_with fail
  refine (isealed_any s _ hs).mono ?_
  rintro e w1 ⟨rfl, hb1⟩
  go_wp2
  go_ret
  exact ⟨rfl, hb1⟩
end Go.Proofs.Yteflnddphpjahaa
