import Derived.Test.YteflnddphpjahaaDoorClCqC
/-
  The program's words on a dry machine.
-/
set_option linter.unusedVariables false
set_option linter.unusedSimpArgs false
set_option maxRecDepth 100000
namespace Go.Proofs.YteflnddphpjahaaDoor
open Go.RowKit

/-- What a word that takes n values and puts m does to a dry machine of height h. -/
def DoPost (n m : Nat) (M at' fuel h : Nat) (code loops : Value) (u : TypeId) (p : Value) (w : World) (e : Ending) (w' : World) : Prop :=
  Only M w w' ∧ ((n ≤ h ∧ h - n + m ≤ 16 ∧ e = .returned (.tuple #[]) ∧ Dry w' M code at' fuel (h - n + m) loops) ∨ (¬ (n ≤ h ∧ h - n + m ≤ 16) ∧ e = .panicked [{ v := .iface u p, recovered := false }]))
/-- What stands around a dry machine. -/
structure DryEnv (M h : Nat) (u : TypeId) (p : Value) (w : World) : Prop where
  hM : 4 ≠ M
  he : w.cell? ⟨4, 0, none⟩ = some (.iface u p)
  hh : h ≤ 16
def Does (F : Nat) (n m : Nat) : Prop := ∀ (M at' fuel h : Nat) (code loops : Value) (u : TypeId) (p : Value) (w : World), Dry w M code at' fuel h loops → DryEnv M h u p w → Calls Tryd.prog F #[.pointer (some ⟨M, 0, none⟩)] w (DoPost n m M at' fuel h code loops u p w)

set_option maxHeartbeats 1000000 in
theorem do_1 : Does 81 0 1 := by
  intro M at' fuel h code loops u p w hd hv
  obtain ⟨n, hn⟩ := hd.sg 0 (by omega)
  by_cases hh : h < 16
  · go_enter Tryd.func81, Tryd.ntmps81
    go_wp2_with fail
    refine (put_ok n M at' fuel h code loops w hd hh).mono ?_
    rintro e w1 ⟨rfl, hd1, ho1⟩
    go_wp2
    exact bodyPost_end (results_none rfl _ _ _) rfl ⟨ho1, Or.inl ⟨Nat.zero_le _, by omega, rfl, hd1⟩⟩
  · go_enter Tryd.func81, Tryd.ntmps81
    go_wp2_with fail
    refine (put_full n M at' fuel h code loops w hd (by have := hv.hh; omega) u p hv.he).mono ?_
    rintro e w1 ⟨rfl, rfl⟩
    go_wp2
    exact ⟨rfl, Only.refl _ _, Or.inr ⟨by omega, rfl⟩⟩
set_option maxHeartbeats 1000000 in
theorem do_2 : Does 83 0 1 := by
  intro M at' fuel h code loops u p w hd hv
  obtain ⟨n, hn⟩ := hd.sg 7 (by omega)
  by_cases hh : h < 16
  · go_enter Tryd.func83, Tryd.ntmps83
    go_wp2_with fail
    refine (put_ok n M at' fuel h code loops w hd hh).mono ?_
    rintro e w1 ⟨rfl, hd1, ho1⟩
    go_wp2
    exact bodyPost_end (results_none rfl _ _ _) rfl ⟨ho1, Or.inl ⟨Nat.zero_le _, by omega, rfl, hd1⟩⟩
  · go_enter Tryd.func83, Tryd.ntmps83
    go_wp2_with fail
    refine (put_full n M at' fuel h code loops w hd (by have := hv.hh; omega) u p hv.he).mono ?_
    rintro e w1 ⟨rfl, rfl⟩
    go_wp2
    exact ⟨rfl, Only.refl _ _, Or.inr ⟨by omega, rfl⟩⟩
set_option maxHeartbeats 1000000 in
theorem do_3 : Does 84 0 1 := by
  intro M at' fuel h code loops u p w hd hv
  obtain ⟨n, hn⟩ := hd.sg 1 (by omega)
  by_cases hh : h < 16
  · go_enter Tryd.func84, Tryd.ntmps84
    go_wp2_with fail
    refine (put_ok n M at' fuel h code loops w hd hh).mono ?_
    rintro e w1 ⟨rfl, hd1, ho1⟩
    go_wp2
    exact bodyPost_end (results_none rfl _ _ _) rfl ⟨ho1, Or.inl ⟨Nat.zero_le _, by omega, rfl, hd1⟩⟩
  · go_enter Tryd.func84, Tryd.ntmps84
    go_wp2_with fail
    refine (put_full n M at' fuel h code loops w hd (by have := hv.hh; omega) u p hv.he).mono ?_
    rintro e w1 ⟨rfl, rfl⟩
    go_wp2
    exact ⟨rfl, Only.refl _ _, Or.inr ⟨by omega, rfl⟩⟩
set_option maxHeartbeats 1000000 in
theorem do_4 : Does 85 0 1 := by
  intro M at' fuel h code loops u p w hd hv
  obtain ⟨n, hn⟩ := hd.sg 2 (by omega)
  by_cases hh : h < 16
  · go_enter Tryd.func85, Tryd.ntmps85
    go_wp2_with fail
    refine (put_ok n M at' fuel h code loops w hd hh).mono ?_
    rintro e w1 ⟨rfl, hd1, ho1⟩
    go_wp2
    exact bodyPost_end (results_none rfl _ _ _) rfl ⟨ho1, Or.inl ⟨Nat.zero_le _, by omega, rfl, hd1⟩⟩
  · go_enter Tryd.func85, Tryd.ntmps85
    go_wp2_with fail
    refine (put_full n M at' fuel h code loops w hd (by have := hv.hh; omega) u p hv.he).mono ?_
    rintro e w1 ⟨rfl, rfl⟩
    go_wp2
    exact ⟨rfl, Only.refl _ _, Or.inr ⟨by omega, rfl⟩⟩
set_option maxHeartbeats 1000000 in
theorem do_5 : Does 86 0 1 := by
  intro M at' fuel h code loops u p w hd hv
  obtain ⟨n, hn⟩ := hd.sg 3 (by omega)
  by_cases hh : h < 16
  · go_enter Tryd.func86, Tryd.ntmps86
    go_wp2_with fail
    refine (put_ok n M at' fuel h code loops w hd hh).mono ?_
    rintro e w1 ⟨rfl, hd1, ho1⟩
    go_wp2
    exact bodyPost_end (results_none rfl _ _ _) rfl ⟨ho1, Or.inl ⟨Nat.zero_le _, by omega, rfl, hd1⟩⟩
  · go_enter Tryd.func86, Tryd.ntmps86
    go_wp2_with fail
    refine (put_full n M at' fuel h code loops w hd (by have := hv.hh; omega) u p hv.he).mono ?_
    rintro e w1 ⟨rfl, rfl⟩
    go_wp2
    exact ⟨rfl, Only.refl _ _, Or.inr ⟨by omega, rfl⟩⟩
set_option maxHeartbeats 1000000 in
theorem do_6 : Does 87 0 1 := by
  intro M at' fuel h code loops u p w hd hv
  obtain ⟨n, hn⟩ := hd.sg 4 (by omega)
  by_cases hh : h < 16
  · go_enter Tryd.func87, Tryd.ntmps87
    go_wp2_with fail
    refine (put_ok n M at' fuel h code loops w hd hh).mono ?_
    rintro e w1 ⟨rfl, hd1, ho1⟩
    go_wp2
    exact bodyPost_end (results_none rfl _ _ _) rfl ⟨ho1, Or.inl ⟨Nat.zero_le _, by omega, rfl, hd1⟩⟩
  · go_enter Tryd.func87, Tryd.ntmps87
    go_wp2_with fail
    refine (put_full n M at' fuel h code loops w hd (by have := hv.hh; omega) u p hv.he).mono ?_
    rintro e w1 ⟨rfl, rfl⟩
    go_wp2
    exact ⟨rfl, Only.refl _ _, Or.inr ⟨by omega, rfl⟩⟩
set_option maxHeartbeats 1000000 in
theorem do_7 : Does 88 0 1 := by
  intro M at' fuel h code loops u p w hd hv
  obtain ⟨n, hn⟩ := hd.sg 5 (by omega)
  by_cases hh : h < 16
  · go_enter Tryd.func88, Tryd.ntmps88
    go_wp2_with fail
    refine (put_ok n M at' fuel h code loops w hd hh).mono ?_
    rintro e w1 ⟨rfl, hd1, ho1⟩
    go_wp2
    exact bodyPost_end (results_none rfl _ _ _) rfl ⟨ho1, Or.inl ⟨Nat.zero_le _, by omega, rfl, hd1⟩⟩
  · go_enter Tryd.func88, Tryd.ntmps88
    go_wp2_with fail
    refine (put_full n M at' fuel h code loops w hd (by have := hv.hh; omega) u p hv.he).mono ?_
    rintro e w1 ⟨rfl, rfl⟩
    go_wp2
    exact ⟨rfl, Only.refl _ _, Or.inr ⟨by omega, rfl⟩⟩
set_option maxHeartbeats 1000000 in
theorem do_8 : Does 89 0 1 := by
  intro M at' fuel h code loops u p w hd hv
  obtain ⟨n, hn⟩ := hd.sg 6 (by omega)
  by_cases hh : h < 16
  · go_enter Tryd.func89, Tryd.ntmps89
    go_wp2_with fail
    refine (put_ok n M at' fuel h code loops w hd hh).mono ?_
    rintro e w1 ⟨rfl, hd1, ho1⟩
    go_wp2
    exact bodyPost_end (results_none rfl _ _ _) rfl ⟨ho1, Or.inl ⟨Nat.zero_le _, by omega, rfl, hd1⟩⟩
  · go_enter Tryd.func89, Tryd.ntmps89
    go_wp2_with fail
    refine (put_full n M at' fuel h code loops w hd (by have := hv.hh; omega) u p hv.he).mono ?_
    rintro e w1 ⟨rfl, rfl⟩
    go_wp2
    exact ⟨rfl, Only.refl _ _, Or.inr ⟨by omega, rfl⟩⟩
set_option maxHeartbeats 1000000 in
theorem do_9 : Does 90 0 1 := by
  intro M at' fuel h code loops u p w hd hv
  obtain ⟨n, hn⟩ := hd.sg 8 (by omega)
  by_cases hh : h < 16
  · go_enter Tryd.func90, Tryd.ntmps90
    go_wp2_with fail
    refine (put_ok n M at' fuel h code loops w hd hh).mono ?_
    rintro e w1 ⟨rfl, hd1, ho1⟩
    go_wp2
    exact bodyPost_end (results_none rfl _ _ _) rfl ⟨ho1, Or.inl ⟨Nat.zero_le _, by omega, rfl, hd1⟩⟩
  · go_enter Tryd.func90, Tryd.ntmps90
    go_wp2_with fail
    refine (put_full n M at' fuel h code loops w hd (by have := hv.hh; omega) u p hv.he).mono ?_
    rintro e w1 ⟨rfl, rfl⟩
    go_wp2
    exact ⟨rfl, Only.refl _ _, Or.inr ⟨by omega, rfl⟩⟩
set_option maxHeartbeats 1000000 in
theorem do_10 : Does 91 2 1 := by
  intro M at' fuel h code loops u p w hd hv
  by_cases hh : h < 2
  · go_enter Tryd.func91, Tryd.ntmps91
    go_wp2_with fail
    refine (takeTwo_less M at' fuel h code loops w hd hh u p hv.hM hv.he).mono ?_
    rintro e w1 ⟨rfl, ho1⟩
    go_wp2
    exact ⟨rfl, ho1, Or.inr ⟨by omega, rfl⟩⟩
  · obtain ⟨h, rfl⟩ : ∃ g, h = g + 2 := ⟨h - 2, by omega⟩
    have hle := hv.hh
    go_enter Tryd.func91, Tryd.ntmps91
    go_wp2_with fail
    refine (takeTwo_ok M at' fuel h code loops w hd (by omega)).mono ?_
    rintro e w1 ⟨rfl, hd1, ho1⟩
    go_wp2_with fail
    refine (put_ok _ M at' fuel h code loops w1 hd1 (by omega)).mono ?_
    rintro e w2 ⟨rfl, hd2, ho2⟩
    go_wp2
    exact bodyPost_end (results_none rfl _ _ _) rfl ⟨ho1.trans ho2, Or.inl ⟨by omega, by omega, rfl, hd2⟩⟩
set_option maxHeartbeats 1000000 in
theorem do_11 : Does 93 2 1 := by
  intro M at' fuel h code loops u p w hd hv
  by_cases hh : h < 2
  · go_enter Tryd.func93, Tryd.ntmps93
    go_wp2_with fail
    refine (takeTwo_less M at' fuel h code loops w hd hh u p hv.hM hv.he).mono ?_
    rintro e w1 ⟨rfl, ho1⟩
    go_wp2
    exact ⟨rfl, ho1, Or.inr ⟨by omega, rfl⟩⟩
  · obtain ⟨h, rfl⟩ : ∃ g, h = g + 2 := ⟨h - 2, by omega⟩
    have hle := hv.hh
    go_enter Tryd.func93, Tryd.ntmps93
    go_wp2_with fail
    refine (takeTwo_ok M at' fuel h code loops w hd (by omega)).mono ?_
    rintro e w1 ⟨rfl, hd1, ho1⟩
    go_wp2_with fail
    refine (put_ok _ M at' fuel h code loops w1 hd1 (by omega)).mono ?_
    rintro e w2 ⟨rfl, hd2, ho2⟩
    go_wp2
    exact bodyPost_end (results_none rfl _ _ _) rfl ⟨ho1.trans ho2, Or.inl ⟨by omega, by omega, rfl, hd2⟩⟩
set_option maxHeartbeats 1000000 in
theorem do_12 : Does 94 2 1 := by
  intro M at' fuel h code loops u p w hd hv
  by_cases hh : h < 2
  · go_enter Tryd.func94, Tryd.ntmps94
    go_wp2_with fail
    refine (takeTwo_less M at' fuel h code loops w hd hh u p hv.hM hv.he).mono ?_
    rintro e w1 ⟨rfl, ho1⟩
    go_wp2
    exact ⟨rfl, ho1, Or.inr ⟨by omega, rfl⟩⟩
  · obtain ⟨h, rfl⟩ : ∃ g, h = g + 2 := ⟨h - 2, by omega⟩
    have hle := hv.hh
    go_enter Tryd.func94, Tryd.ntmps94
    go_wp2_with fail
    refine (takeTwo_ok M at' fuel h code loops w hd (by omega)).mono ?_
    rintro e w1 ⟨rfl, hd1, ho1⟩
    go_wp2_with fail
    refine (put_ok _ M at' fuel h code loops w1 hd1 (by omega)).mono ?_
    rintro e w2 ⟨rfl, hd2, ho2⟩
    go_wp2
    exact bodyPost_end (results_none rfl _ _ _) rfl ⟨ho1.trans ho2, Or.inl ⟨by omega, by omega, rfl, hd2⟩⟩
set_option maxHeartbeats 1000000 in
theorem do_17 : Does 101 2 1 := by
  intro M at' fuel h code loops u p w hd hv
  by_cases hh : h < 2
  · go_enter Tryd.func101, Tryd.ntmps101
    go_wp2_with fail
    refine (takeTwo_less M at' fuel h code loops w hd hh u p hv.hM hv.he).mono ?_
    rintro e w1 ⟨rfl, ho1⟩
    go_wp2
    exact ⟨rfl, ho1, Or.inr ⟨by omega, rfl⟩⟩
  · obtain ⟨h, rfl⟩ : ∃ g, h = g + 2 := ⟨h - 2, by omega⟩
    have hle := hv.hh
    go_enter Tryd.func101, Tryd.ntmps101
    go_wp2_with fail
    refine (takeTwo_ok M at' fuel h code loops w hd (by omega)).mono ?_
    rintro e w1 ⟨rfl, hd1, ho1⟩
    go_wp2_with fail
    refine (put_ok _ M at' fuel h code loops w1 hd1 (by omega)).mono ?_
    rintro e w2 ⟨rfl, hd2, ho2⟩
    go_wp2
    exact bodyPost_end (results_none rfl _ _ _) rfl ⟨ho1.trans ho2, Or.inl ⟨by omega, by omega, rfl, hd2⟩⟩
set_option maxHeartbeats 1000000 in
theorem do_18 : Does 102 2 1 := by
  intro M at' fuel h code loops u p w hd hv
  by_cases hh : h < 2
  · go_enter Tryd.func102, Tryd.ntmps102
    go_wp2_with fail
    refine (takeTwo_less M at' fuel h code loops w hd hh u p hv.hM hv.he).mono ?_
    rintro e w1 ⟨rfl, ho1⟩
    go_wp2
    exact ⟨rfl, ho1, Or.inr ⟨by omega, rfl⟩⟩
  · obtain ⟨h, rfl⟩ : ∃ g, h = g + 2 := ⟨h - 2, by omega⟩
    have hle := hv.hh
    go_enter Tryd.func102, Tryd.ntmps102
    go_wp2_with fail
    refine (takeTwo_ok M at' fuel h code loops w hd (by omega)).mono ?_
    rintro e w1 ⟨rfl, hd1, ho1⟩
    go_wp2_with fail
    refine (put_ok _ M at' fuel h code loops w1 hd1 (by omega)).mono ?_
    rintro e w2 ⟨rfl, hd2, ho2⟩
    go_wp2
    exact bodyPost_end (results_none rfl _ _ _) rfl ⟨ho1.trans ho2, Or.inl ⟨by omega, by omega, rfl, hd2⟩⟩
end Go.Proofs.YteflnddphpjahaaDoor
/-
  The program's words on a dry machine, more.
-/
set_option linter.unusedVariables false
set_option linter.unusedSimpArgs false
set_option maxRecDepth 100000
namespace Go.Proofs.YteflnddphpjahaaDoor
open Go.RowKit

set_option maxHeartbeats 1000000 in
theorem takeQuotient_ok (M at' fuel h : Nat) (code loops : Value) (w : World) (hd : Dry w M code at' fuel (h + 2) loops) (hh : h + 1 < 16) : Calls Tryd.prog 96 #[.pointer (some ⟨M, 0, none⟩)] w fun e w' => e = .returned (.tuple #[.int .i64 1, .int .i64 1]) ∧ Dry w' M code at' fuel h loops ∧ Only M w w' := by
  go_enter Tryd.func96, Tryd.ntmps96
  go_wp2_with fail
  refine (takeTwo_ok M at' fuel h code loops w hd hh).mono ?_
  rintro e w1 ⟨rfl, hd1, ho1⟩
  go_wp2
  exact bodyPost_ret (v := .tuple #[.int .i64 1, .int .i64 1]) (by simp [results, Tryd.results96, go_sem]) rfl ⟨rfl, hd1, ho1⟩
set_option maxHeartbeats 1000000 in
theorem takeQuotient_less (M at' fuel h : Nat) (code loops : Value) (w : World) (hd : Dry w M code at' fuel h loops) (hh : h < 2) (u : TypeId) (p : Value) (hM : 4 ≠ M) (he : w.cell? ⟨4, 0, none⟩ = some (.iface u p)) : Calls Tryd.prog 96 #[.pointer (some ⟨M, 0, none⟩)] w fun e w' => e = .panicked [{ v := .iface u p, recovered := false }] ∧ Only M w w' := by
  go_enter Tryd.func96, Tryd.ntmps96
  go_wp2_with fail
  refine (takeTwo_less M at' fuel h code loops w hd hh u p hM he).mono ?_
  rintro e w1 ⟨rfl, ho1⟩
  go_wp2
  exact ⟨rfl, rfl, ho1⟩
set_option maxHeartbeats 1000000 in
theorem putTruth_ok (v : Bool) (M at' fuel h : Nat) (code loops : Value) (w : World) (hd : Dry w M code at' fuel h loops) (hh : h < 16) : Calls Tryd.prog 99 #[.pointer (some ⟨M, 0, none⟩), .bool v] w fun e w' => e = .returned (.tuple #[]) ∧ Dry w' M code at' fuel (h + 1) loops ∧ Only M w w' := by
  cases v with
  | true =>
    go_enter Tryd.func99, Tryd.ntmps99
    go_wp2_with fail
    refine (put_ok 1 M at' fuel h code loops w hd hh).mono ?_
    rintro e w1 ⟨rfl, hd1, ho1⟩
    go_wp2
    exact bodyPost_end (results_none rfl _ _ _) rfl ⟨rfl, hd1, ho1⟩
  | false =>
    go_enter Tryd.func99, Tryd.ntmps99
    go_wp2_with fail
    refine (put_ok 0 M at' fuel h code loops w hd hh).mono ?_
    rintro e w1 ⟨rfl, hd1, ho1⟩
    go_wp2
    exact bodyPost_end (results_none rfl _ _ _) rfl ⟨rfl, hd1, ho1⟩
set_option maxHeartbeats 1000000 in
theorem do_13 : Does 95 2 1 := by
  intro M at' fuel h code loops u p w hd hv
  by_cases hh : h < 2
  · go_enter Tryd.func95, Tryd.ntmps95
    go_wp2_with fail
    refine (takeQuotient_less M at' fuel h code loops w hd hh u p hv.hM hv.he).mono ?_
    rintro e w1 ⟨rfl, ho1⟩
    go_wp2
    exact ⟨rfl, ho1, Or.inr ⟨by omega, rfl⟩⟩
  · obtain ⟨h, rfl⟩ : ∃ g, h = g + 2 := ⟨h - 2, by omega⟩
    have hle := hv.hh
    go_enter Tryd.func95, Tryd.ntmps95
    go_wp2_with fail
    refine (takeQuotient_ok M at' fuel h code loops w hd (by omega)).mono ?_
    rintro e w1 ⟨rfl, hd1, ho1⟩
    go_wp2_with fail
    refine (put_ok _ M at' fuel h code loops w1 hd1 (by omega)).mono ?_
    rintro e w2 ⟨rfl, hd2, ho2⟩
    go_wp2
    exact bodyPost_end (results_none rfl _ _ _) rfl ⟨ho1.trans ho2, Or.inl ⟨by omega, by omega, rfl, hd2⟩⟩
set_option maxHeartbeats 1000000 in
theorem do_14 : Does 97 2 1 := by
  intro M at' fuel h code loops u p w hd hv
  by_cases hh : h < 2
  · go_enter Tryd.func97, Tryd.ntmps97
    go_wp2_with fail
    refine (takeQuotient_less M at' fuel h code loops w hd hh u p hv.hM hv.he).mono ?_
    rintro e w1 ⟨rfl, ho1⟩
    go_wp2
    exact ⟨rfl, ho1, Or.inr ⟨by omega, rfl⟩⟩
  · obtain ⟨h, rfl⟩ : ∃ g, h = g + 2 := ⟨h - 2, by omega⟩
    have hle := hv.hh
    go_enter Tryd.func97, Tryd.ntmps97
    go_wp2_with fail
    refine (takeQuotient_ok M at' fuel h code loops w hd (by omega)).mono ?_
    rintro e w1 ⟨rfl, hd1, ho1⟩
    go_wp2_with fail
    refine (put_ok _ M at' fuel h code loops w1 hd1 (by omega)).mono ?_
    rintro e w2 ⟨rfl, hd2, ho2⟩
    go_wp2
    exact bodyPost_end (results_none rfl _ _ _) rfl ⟨ho1.trans ho2, Or.inl ⟨by omega, by omega, rfl, hd2⟩⟩
set_option maxHeartbeats 1000000 in
theorem do_15 : Does 98 2 1 := by
  intro M at' fuel h code loops u p w hd hv
  by_cases hh : h < 2
  · go_enter Tryd.func98, Tryd.ntmps98
    go_wp2_with fail
    refine (takeTwo_less M at' fuel h code loops w hd hh u p hv.hM hv.he).mono ?_
    rintro e w1 ⟨rfl, ho1⟩
    go_wp2
    exact ⟨rfl, ho1, Or.inr ⟨by omega, rfl⟩⟩
  · obtain ⟨h, rfl⟩ : ∃ g, h = g + 2 := ⟨h - 2, by omega⟩
    have hle := hv.hh
    go_enter Tryd.func98, Tryd.ntmps98
    go_wp2_with fail
    refine (takeTwo_ok M at' fuel h code loops w hd (by omega)).mono ?_
    rintro e w1 ⟨rfl, hd1, ho1⟩
    go_wp2_with fail
    refine (putTruth_ok _ M at' fuel h code loops w1 hd1 (by omega)).mono ?_
    rintro e w2 ⟨rfl, hd2, ho2⟩
    go_wp2
    exact bodyPost_end (results_none rfl _ _ _) rfl ⟨ho1.trans ho2, Or.inl ⟨by omega, by omega, rfl, hd2⟩⟩
set_option maxHeartbeats 1000000 in
theorem do_16 : Does 100 2 1 := by
  intro M at' fuel h code loops u p w hd hv
  by_cases hh : h < 2
  · go_enter Tryd.func100, Tryd.ntmps100
    go_wp2_with fail
    refine (takeTwo_less M at' fuel h code loops w hd hh u p hv.hM hv.he).mono ?_
    rintro e w1 ⟨rfl, ho1⟩
    go_wp2
    exact ⟨rfl, ho1, Or.inr ⟨by omega, rfl⟩⟩
  · obtain ⟨h, rfl⟩ : ∃ g, h = g + 2 := ⟨h - 2, by omega⟩
    have hle := hv.hh
    go_enter Tryd.func100, Tryd.ntmps100
    go_wp2_with fail
    refine (takeTwo_ok M at' fuel h code loops w hd (by omega)).mono ?_
    rintro e w1 ⟨rfl, hd1, ho1⟩
    go_wp2_with fail
    refine (putTruth_ok _ M at' fuel h code loops w1 hd1 (by omega)).mono ?_
    rintro e w2 ⟨rfl, hd2, ho2⟩
    go_wp2
    exact bodyPost_end (results_none rfl _ _ _) rfl ⟨ho1.trans ho2, Or.inl ⟨by omega, by omega, rfl, hd2⟩⟩
set_option maxHeartbeats 1000000 in
theorem do_20 : Does 105 1 0 := by
  intro M at' fuel h code loops u p w hd hv
  have hle := hv.hh
  match h, hd, hle with
  | 0, hd, _ =>
    go_enter Tryd.func105, Tryd.ntmps105
    go_wp2_with fail
    refine (take_none M at' fuel code loops w hd u p hv.he).mono ?_
    rintro e w1 ⟨rfl, rfl⟩
    go_wp2
    exact ⟨rfl, Only.refl _ _, Or.inr ⟨by omega, rfl⟩⟩
  | h + 1, hd, hle =>
    go_enter Tryd.func105, Tryd.ntmps105
    go_wp2_with fail
    refine (take_ok M at' fuel h code loops w hd (by omega)).mono ?_
    rintro e w1 ⟨rfl, hd1, ho1⟩
    go_wp2
    exact bodyPost_end (results_none rfl _ _ _) rfl ⟨ho1, Or.inl ⟨by omega, by omega, rfl, hd1⟩⟩
set_option maxHeartbeats 1000000 in
theorem do_21 : Does 106 2 2 := by
  intro M at' fuel h code loops u p w hd hv
  by_cases hh : h < 2
  · go_enter Tryd.func106, Tryd.ntmps106
    go_wp2_with fail
    refine (takeTwo_less M at' fuel h code loops w hd hh u p hv.hM hv.he).mono ?_
    rintro e w1 ⟨rfl, ho1⟩
    go_wp2
    exact ⟨rfl, ho1, Or.inr ⟨by omega, rfl⟩⟩
  · obtain ⟨h, rfl⟩ : ∃ g, h = g + 2 := ⟨h - 2, by omega⟩
    have hle := hv.hh
    go_enter Tryd.func106, Tryd.ntmps106
    go_wp2_with fail
    refine (takeTwo_ok M at' fuel h code loops w hd (by omega)).mono ?_
    rintro e w1 ⟨rfl, hd1, ho1⟩
    go_wp2_with fail
    refine (put_ok _ M at' fuel h code loops w1 hd1 (by omega)).mono ?_
    rintro e w2 ⟨rfl, hd2, ho2⟩
    go_wp2_with fail
    refine (put_ok _ M at' fuel (h + 1) code loops w2 hd2 (by omega)).mono ?_
    rintro e w3 ⟨rfl, hd3, ho3⟩
    go_wp2
    exact bodyPost_end (results_none rfl _ _ _) rfl ⟨(ho1.trans ho2).trans ho3, Or.inl ⟨by omega, by omega, rfl, hd3⟩⟩
end Go.Proofs.YteflnddphpjahaaDoor
/-
  The program's words on a dry machine, the last but the brackets.
-/
set_option linter.unusedVariables false
set_option linter.unusedSimpArgs false
set_option maxRecDepth 100000
namespace Go.Proofs.YteflnddphpjahaaDoor
open Go.RowKit

set_option maxHeartbeats 1000000 in
theorem do_19 : Does 103 1 2 := by
  intro M at' fuel h code loops u p w hd hv
  have hle := hv.hh
  match h, hd, hle with
  | 0, hd, _ =>
    go_enter Tryd.func103, Tryd.ntmps103
    go_wp2_with fail
    refine (take_none M at' fuel code loops w hd u p hv.he).mono ?_
    rintro e w1 ⟨rfl, rfl⟩
    go_wp2
    exact ⟨rfl, Only.refl _ _, Or.inr ⟨by omega, rfl⟩⟩
  | h + 1, hd, hle =>
    go_enter Tryd.func103, Tryd.ntmps103
    go_wp2_with fail
    refine (take_ok M at' fuel h code loops w hd (by omega)).mono ?_
    rintro e w1 ⟨rfl, hd1, ho1⟩
    go_wp2_with fail
    refine (put_ok _ M at' fuel h code loops w1 hd1 (by omega)).mono ?_
    rintro e w2 ⟨rfl, hd2, ho2⟩
    by_cases hf : h + 1 < 16
    · go_wp2_with fail
      refine (put_ok _ M at' fuel (h + 1) code loops w2 hd2 hf).mono ?_
      rintro e w3 ⟨rfl, hd3, ho3⟩
      go_wp2
      exact bodyPost_end (results_none rfl _ _ _) rfl ⟨(ho1.trans ho2).trans ho3, Or.inl ⟨by omega, by omega, rfl, hd3⟩⟩
    · go_wp2_with fail
      refine (put_full _ M at' fuel (h + 1) code loops w2 hd2 (by omega) u p (((ho1.trans ho2).cell hv.hM).trans hv.he)).mono ?_
      rintro e w3 ⟨rfl, rfl⟩
      go_wp2
      exact ⟨rfl, ho1.trans ho2, Or.inr ⟨by omega, rfl⟩⟩
set_option maxHeartbeats 1000000 in
theorem do_22 : Does 107 2 3 := by
  intro M at' fuel h code loops u p w hd hv
  by_cases hh : h < 2
  · go_enter Tryd.func107, Tryd.ntmps107
    go_wp2_with fail
    refine (takeTwo_less M at' fuel h code loops w hd hh u p hv.hM hv.he).mono ?_
    rintro e w1 ⟨rfl, ho1⟩
    go_wp2
    exact ⟨rfl, ho1, Or.inr ⟨by omega, rfl⟩⟩
  · obtain ⟨h, rfl⟩ : ∃ g, h = g + 2 := ⟨h - 2, by omega⟩
    have hle := hv.hh
    go_enter Tryd.func107, Tryd.ntmps107
    go_wp2_with fail
    refine (takeTwo_ok M at' fuel h code loops w hd (by omega)).mono ?_
    rintro e w1 ⟨rfl, hd1, ho1⟩
    go_wp2_with fail
    refine (put_ok _ M at' fuel h code loops w1 hd1 (by omega)).mono ?_
    rintro e w2 ⟨rfl, hd2, ho2⟩
    go_wp2_with fail
    refine (put_ok _ M at' fuel (h + 1) code loops w2 hd2 (by omega)).mono ?_
    rintro e w3 ⟨rfl, hd3, ho3⟩
    have ho := (ho1.trans ho2).trans ho3
    by_cases hf : h + 2 < 16
    · go_wp2_with fail
      refine (put_ok _ M at' fuel (h + 2) code loops w3 hd3 hf).mono ?_
      rintro e w4 ⟨rfl, hd4, ho4⟩
      go_wp2
      exact bodyPost_end (results_none rfl _ _ _) rfl ⟨ho.trans ho4, Or.inl ⟨by omega, by omega, rfl, hd4⟩⟩
    · go_wp2_with fail
      refine (put_full _ M at' fuel (h + 2) code loops w3 hd3 (by omega) u p ((ho.cell hv.hM).trans hv.he)).mono ?_
      rintro e w4 ⟨rfl, rfl⟩
      go_wp2
      exact ⟨rfl, ho, Or.inr ⟨by omega, rfl⟩⟩
set_option maxHeartbeats 1000000 in
theorem choose_any : Does 109 3 1 := by
  intro M at' fuel h code loops u p w hd hv
  by_cases hh : h < 2
  · go_enter Tryd.func109, Tryd.ntmps109
    go_wp2_with fail
    refine (takeTwo_less M at' fuel h code loops w hd hh u p hv.hM hv.he).mono ?_
    rintro e w1 ⟨rfl, ho1⟩
    go_wp2
    exact ⟨rfl, ho1, Or.inr ⟨by omega, rfl⟩⟩
  · obtain ⟨h, rfl⟩ : ∃ g, h = g + 2 := ⟨h - 2, by omega⟩
    have hle := hv.hh
    go_enter Tryd.func109, Tryd.ntmps109
    go_wp2_with fail
    refine (takeTwo_ok M at' fuel h code loops w hd (by omega)).mono ?_
    rintro e w1 ⟨rfl, hd1, ho1⟩
    match h, hd1, hle with
    | 0, hd1, _ =>
      go_wp2_with fail
      refine (take_none M at' fuel code loops w1 hd1 u p ((ho1.cell hv.hM).trans hv.he)).mono ?_
      rintro e w2 ⟨rfl, rfl⟩
      go_wp2
      exact ⟨rfl, ho1, Or.inr ⟨by omega, rfl⟩⟩
    | h + 1, hd1, hle =>
      go_wp2_with fail
      refine (take_ok M at' fuel h code loops w1 hd1 (by omega)).mono ?_
      rintro e w2 ⟨rfl, hd2, ho2⟩
      go_wp2_with fail
      refine (put_ok _ M at' fuel h code loops w2 hd2 (by omega)).mono ?_
      rintro e w3 ⟨rfl, hd3, ho3⟩
      go_wp2
      exact bodyPost_end (results_none rfl _ _ _) rfl ⟨(ho1.trans ho2).trans ho3, Or.inl ⟨by omega, by omega, rfl, hd3⟩⟩
set_option maxHeartbeats 1000000 in
theorem do_23 : Does 108 3 1 := by
  intro M at' fuel h code loops u p w hd hv
  go_enter Tryd.func108, Tryd.ntmps108
  go_wp2_with fail
  refine (choose_any M at' fuel h code loops u p w hd hv).mono ?_
  rintro e w1 ⟨ho, ⟨g1, g2, rfl, hd1⟩ | ⟨g, rfl⟩⟩
  · go_wp2
    exact bodyPost_end (results_none rfl _ _ _) rfl ⟨ho, Or.inl ⟨g1, g2, rfl, hd1⟩⟩
  · go_wp2
    exact ⟨rfl, ho, Or.inr ⟨g, rfl⟩⟩
end Go.Proofs.YteflnddphpjahaaDoor
/-
  A number's word on a dry machine.
-/
set_option linter.unusedVariables false
set_option linter.unusedSimpArgs false
set_option maxRecDepth 100000
namespace Go.Proofs.YteflnddphpjahaaDoor
open Go.RowKit

set_option maxHeartbeats 1000000 in
theorem do_num (B : Nat) (n : Int) (M at' fuel h : Nat) (code loops : Value) (u : TypeId) (p : Value) (w : World) (hd : Dry w M code at' fuel h loops) (hv : DryEnv M h u p w) (hn : w.cell? ⟨B, 0, none⟩ = some (.int .i64 n)) :
    Calls Tryd.prog 136 #[.pointer (some ⟨M, 0, none⟩), .pointer (some ⟨B, 0, none⟩)] w (DoPost 0 1 M at' fuel h code loops u p w) := by
  by_cases hh : h < 16
  · go_enter Tryd.func136, Tryd.ntmps136
    go_wp2_with fail
    refine (put_ok n M at' fuel h code loops w hd hh).mono ?_
    rintro e w1 ⟨rfl, hd1, ho1⟩
    go_wp2
    exact bodyPost_end (results_none rfl _ _ _) rfl ⟨ho1, Or.inl ⟨Nat.zero_le _, by omega, rfl, hd1⟩⟩
  · go_enter Tryd.func136, Tryd.ntmps136
    go_wp2_with fail
    refine (put_full n M at' fuel h code loops w hd (by have := hv.hh; omega) u p hv.he).mono ?_
    rintro e w1 ⟨rfl, rfl⟩
    go_wp2
    exact ⟨rfl, Only.refl _ _, Or.inr ⟨by omega, rfl⟩⟩
end Go.Proofs.YteflnddphpjahaaDoor
