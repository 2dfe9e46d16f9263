import Derived.Test.YteflnddphpjahaaClStD
/-
  Steady: does.
-/
set_option linter.unusedVariables false
set_option linter.unusedSimpArgs false
set_option maxRecDepth 100000
namespace Go.Proofs.Yteflnddphpjahaa.Dk
open Go.RowKit

theorem Disk.below {B D N m : Nat} {o : Option (Nat × Fl)} {w w' : World} (h : Disk B D N m o w) (hb : Below w.heap.size w w') : Disk B D N m o w' := by
  obtain ⟨s, F, vn, vs, vc, l, vb, hd, hi, hx⟩ := h
  exact ⟨s, F, vn, vs, vc, l, vb, hd.below hb, hi, hx⟩
theorem Disk.bw {B D N m : Nat} {o : Option (Nat × Fl)} {w : World} (h : Disk B D N m o w) : B ≤ w.heap.size := by
  obtain ⟨s, F, vn, vs, vc, l, vb, hd, hi, hx⟩ := h
  exact hd.bw

set_option maxHeartbeats 2000000 in
theorem does_any (B D N m : Nat) (o : Option (Nat × Fl)) (k a b n : Int) (w : World) (h : Disk B D N m o w) (hm : m ≤ 1000000) (hN : N ≤ 10000000) (k1 : -9223372036854775808 ≤ k) (k2 : k ≤ 9223372036854775807) (a1 : -9223372036854775808 ≤ a) (a2 : a ≤ 9223372036854775807) (b1 : -9223372036854775808 ≤ b) (b2 : b ≤ 9223372036854775807) (n1 : -9223372036854775808 ≤ n) (n2 : n ≤ 9223372036854775807) :
    Calls Try.prog 14 #[.pointer (some ⟨D, 0, none⟩), .agg #[.int .i64 k, .int .i64 a, .int .i64 b, .int .i64 n]] w fun e w' => e = .returned (.tuple #[]) ∧ Good B D N (m + 1) o w w' := by
  have hW : ∀ ob, Disk B D N m o (w.alloc ob) := fun ob => h.below ((Below.refl _ w).alloc (Nat.le_refl _) ob)
  have hgw : ∀ ob w', Good B D N (m + 1) o (w.alloc ob) w' → Good B D N (m + 1) o w w' := fun ob w' hg => ⟨((Below.refl B w).alloc h.bw ob).trans hg.1, hg.2⟩
  have HW := hide hW
  have HG := hide hgw
  clear hW hgw h
  go_enter Try.func14, Try.ntmps14
  go_wp2_with fail
  refine (spick_any a 3 3 _ rfl a1 a2 (by omega) (by omega)).mono ?_
  rintro e w1 ⟨⟨ra, rfl, hra⟩, hw1⟩
  obtain rfl := hw1.symm
  have hra' : (ra : Int) < 3 := by omega
  go_wp2_with fail
  refine (spick_any b 3 3 _ rfl b1 b2 (by omega) (by omega)).mono ?_
  rintro e w1 ⟨⟨rb, rfl, hrb⟩, hw1⟩
  obtain rfl := hw1.symm
  have hrb' : (rb : Int) < 3 := by omega
  go_wp2_with fail
  refine (spick_any k 6 6 _ rfl k1 k2 (by omega) (by omega)).mono ?_
  rintro e w1 ⟨⟨rk, rfl, hrk⟩, hw1⟩
  obtain rfl := hw1.symm
  obtain ⟨la, na⟩ := act_name ra hra
  obtain ⟨lb, nb⟩ := act_name rb hrb
  generalize ((⟨#[97, 98, 99]⟩ : ByteArray).extract ra 3).extract 0 1 = ya at la na ⊢
  generalize ((⟨#[97, 98, 99]⟩ : ByteArray).extract rb 3).extract 0 1 = yb at lb nb ⊢
  have na' : ¬ zx = ya := fun e => na e.symm
  have nb' : ¬ zx = yb := fun e => nb e.symm
  clear na nb
  match rk, hrk with
  | 0, _ =>
    go_wp2_with fail
    refine (act_create B D N m o ya _ ((unhide HW) _) hm la na').mono ?_
    rintro e w' ⟨nn, rfl, hg⟩
    have H := hide ((unhide HG) _ _ hg)
    clear hg
    go_wp2
    first | exact bodyPost_end (results_none rfl _ _ _) rfl ⟨rfl, unhide H⟩ | exact bodyPost_ret (v := .tuple #[]) (results_none rfl _ _ _) rfl ⟨rfl, unhide H⟩
  | 1, _ =>
    go_wp2_with fail
    refine (spick_any n 11 11 _ rfl n1 n2 (by omega) (by omega)).mono ?_
    rintro e w1 ⟨⟨rn, rfl, hrn⟩, hw1⟩
    obtain rfl := hw1.symm
    have hrn' : (rn : Int) < 11 := by omega
    have hrn2 : rn ≤ 10 := by omega
    go_wp2_with fail
    refine (act_append B D N m o ya _ _ ((unhide HW) _) hm hN (by rw [ByteArray.size_extract]; omega) na').mono ?_
    rintro e w' ⟨nn, rfl, hg⟩
    have H := hide ((unhide HG) _ _ hg)
    clear hg
    go_wp2
    first | exact bodyPost_end (results_none rfl _ _ _) rfl ⟨rfl, unhide H⟩ | exact bodyPost_ret (v := .tuple #[]) (results_none rfl _ _ _) rfl ⟨rfl, unhide H⟩
  | 2, _ =>
    go_wp2_with fail
    refine (act_sync B D N m o ya _ ((unhide HW) _) na').mono ?_
    rintro e w' ⟨nn, rfl, hg⟩
    have H := hide ((unhide HG) _ _ hg)
    clear hg
    go_wp2
    first | exact bodyPost_end (results_none rfl _ _ _) rfl ⟨rfl, unhide H⟩ | exact bodyPost_ret (v := .tuple #[]) (results_none rfl _ _ _) rfl ⟨rfl, unhide H⟩
  | 3, _ =>
    go_wp2_with fail
    refine (act_rename B D N m o ya yb _ ((unhide HW) _) hm la lb na' nb').mono ?_
    rintro e w' ⟨nn, rfl, hg⟩
    have H := hide ((unhide HG) _ _ hg)
    clear hg
    go_wp2
    first | exact bodyPost_end (results_none rfl _ _ _) rfl ⟨rfl, unhide H⟩ | exact bodyPost_ret (v := .tuple #[]) (results_none rfl _ _ _) rfl ⟨rfl, unhide H⟩
  | 4, _ =>
    go_wp2_with fail
    refine (act_remove B D N m o ya _ ((unhide HW) _) hm la na').mono ?_
    rintro e w' ⟨nn, rfl, hg⟩
    have H := hide ((unhide HG) _ _ hg)
    clear hg
    go_wp2
    first | exact bodyPost_end (results_none rfl _ _ _) rfl ⟨rfl, unhide H⟩ | exact bodyPost_ret (v := .tuple #[]) (results_none rfl _ _ _) rfl ⟨rfl, unhide H⟩
  | 5, _ =>
    go_wp2_with fail
    refine (act_syncDir B D N m o _ ((unhide HW) _)).mono ?_
    rintro e w' ⟨nn, rfl, hg⟩
    have H := hide ((unhide HG) _ _ hg)
    clear hg
    go_wp2
    first | exact bodyPost_end (results_none rfl _ _ _) rfl ⟨rfl, unhide H⟩ | exact bodyPost_ret (v := .tuple #[]) (results_none rfl _ _ _) rfl ⟨rfl, unhide H⟩
end Go.Proofs.Yteflnddphpjahaa.Dk
