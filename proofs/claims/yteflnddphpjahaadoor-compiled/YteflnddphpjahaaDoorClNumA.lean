import Derived.Test.YteflnddphpjahaaDoorClRefBtoRefD
import Derived.Test.YteflnddphpjahaaDoorClShelf
import Derived.Test.YteflnddphpjahaaDoorClRefE
import Derived.Outline
import Derived.Deep.DeepMust
/-
  The program's numbers: the walks of readSize and Read.
-/
set_option linter.unusedVariables false
set_option linter.unusedSimpArgs false
set_option maxRecDepth 100000
namespace Go.Proofs.YteflnddphpjahaaDoor
open Go.RowKit

set_option maxHeartbeats 1000000 in
theorem readSize_no (d : ByteArray) (w : World) (hs : d.size ≤ 4000) (h : d.size = 0 ∨ ∃ h0 : 0 < d.size, ((d[0].toNat : Nat) : Int) = 48) :
    Calls Tryd.prog 122 #[.string d] w fun e w' => e = .returned (numOut none) ∧ w' = w := by
  rcases h with h | ⟨h0, h⟩
  · have hne : d.toList.isEmpty = true := by rw [ByteArray.toList_eq, nil_of (by omega)]; rfl
    go_enter Tryd.func122, Tryd.ntmps122
    go_wp2
    go_ret2
    exact ⟨rfl, rfl⟩
  · have hne : d.toList.isEmpty = false := by
      rw [ByteArray.toList_eq]
      cases hq : d.data.toList with
      | nil => exact absurd hq (ne_nil h0)
      | cons _ _ => rfl
    have h' : (((d[0].toNat : Nat) : Int) == 48) = true := beq_iff_eq.2 h
    clear h
    go_enter Tryd.func122, Tryd.ntmps122
    go_wp2
    go_ret2
    exact ⟨rfl, rfl⟩

set_option maxHeartbeats 1000000 in
theorem readSize_loop (d : ByteArray) (w : World) (hs : d.size ≤ 4000) (hd : 0 < d.size) (hd0 : ((d[0].toNat : Nat) : Int) ≠ 48) :
    Calls Tryd.prog 122 #[.string d] w fun e w' => e = .returned (numOut (Sp.dval d.data.toList)) ∧ Below w.heap.size w w' := by
  have hne : d.toList.isEmpty = false := by
    rw [ByteArray.toList_eq]
    cases hq : d.data.toList with
    | nil => exact absurd hq (ne_nil hd)
    | cons _ _ => rfl
  have hd0' : (((d[0].toNat : Nat) : Int) == 48) = false := beq_eq_false_iff_ne.2 hd0
  go_enter Tryd.func122, Tryd.ntmps122
  go_wp2_with fail
  go_loopw [4] (fun n wr => ∃ (k : Nat) (v : Int), k ≤ d.size ∧ n = .int .i64 v ∧ Hid (Sp.dval (d.data.toList.take k) = some v) ∧ wr = w.iter d k) (fun _ wr => d.size - wr.iterPos w.heap.size)
  case atStart => exact ⟨0, 0, Nat.zero_le _, rfl, rfl, rfl⟩
  case round =>
    obtain ⟨k, v, hk, rfl, HV, rfl⟩ := hrel
    have hb := Sp.dval_bd HV.out
    have hbel : ∀ p, Below w.heap.size w (w.iter d p) := fun p => (Below.refl _ _).alloc (Nat.le_refl _) _
    by_cases hlt : k < d.size
    · have HS : Hid (Sp.dval (d.data.toList.take (k + 1)) = Sp.dstep (some v) d[k]) := by
        show _ = _; rw [Sp.take_snoc d k hlt, Sp.dval_snoc, HV.out]
      by_cases ha : (d[k].toNat) < 128
      · have hnx := fun ty => run_next_ascii (P := Tryd.prog) w d k ty hlt ha
        by_cases c1 : ((d[k].toNat : Nat) : Int) < 48
        · have HN : Hid (Sp.dval d.data.toList = none) := Sp.dval_take_none (k := k + 1) (by rw [HS.out]; exact if_pos (Or.inl c1))
          go_wp2
          go_ret2
          exact ⟨by rw [HN.out]; rfl, hbel _⟩
        by_cases c2 : 57 < ((d[k].toNat : Nat) : Int)
        · have HN : Hid (Sp.dval d.data.toList = none) := Sp.dval_take_none (k := k + 1) (by rw [HS.out]; exact if_pos (Or.inr (Or.inl c2)))
          go_wp2
          go_ret2
          exact ⟨by rw [HN.out]; rfl, hbel _⟩
        by_cases c3 : 1000000000 < v * 10 + (((d[k].toNat : Nat) : Int) - 48)
        · have HN : Hid (Sp.dval d.data.toList = none) := Sp.dval_take_none (k := k + 1) (by rw [HS.out]; exact if_pos (Or.inr (Or.inr (by omega))))
          go_wp2
          go_ret2
          exact ⟨by rw [HN.out]; rfl, hbel _⟩
        · go_wp2
          go_roundw
          case rel => exact ⟨k + 1, _, by omega, rfl, by show _ = _; rw [HS.out]; rw [show v * 10 = 10 * v from by omega]; exact if_neg (by omega), rfl⟩
          case measure => simp; omega
      · have hnx := fun ty => run_next_any (P := Tryd.prog) w d k ty hlt
        have hhi := (decode_high d k hlt (by omega)).1
        have hle := decode_le d k
        have HN : Hid (Sp.dval d.data.toList = none) := Sp.dval_take_none (k := k + 1) (by rw [HS.out]; exact if_pos (Or.inr (Or.inl (by omega))))
        generalize Utf8.decode d k = D at hnx hhi hle
        have hhi' : 128 ≤ ((D.1 : Nat) : Int) := by omega
        go_wp2
        go_ret2
        exact ⟨by rw [HN.out]; rfl, hbel _⟩
    · have HN : Hid (Sp.dval d.data.toList = some v) := by
        show _ = _; rw [← Sp.take_all d k (by omega)]; exact HV.out
      have hnx := fun ty => run_next_end (P := Tryd.prog) w d k ty hlt
      go_wp2
      go_ret2
      exact ⟨by rw [HN.out]; rfl, hbel _⟩

theorem readSize_any (d : ByteArray) (w : World) (hs : d.size ≤ 4000) :
    Calls Tryd.prog 122 #[.string d] w fun e w' => e = .returned (numOut (Sp.digits d.data.toList)) ∧ Below w.heap.size w w' := by
  by_cases hd : 0 < d.size
  · by_cases h48 : ((d[0].toNat : Nat) : Int) = 48
    · rw [show Sp.digits d.data.toList = none from if_pos (Or.inr (head_is 48 hd h48))]
      exact (readSize_no d w hs (Or.inr ⟨hd, h48⟩)).mono fun e w' h => ⟨h.1, by rw [h.2]; exact Below.refl _ _⟩
    · have hne := ne_nil hd
      rw [show Sp.digits d.data.toList = Sp.dval d.data.toList from if_neg (by rintro (e | e); exact hne e; exact head_ne 48 hd h48 e)]
      exact readSize_loop d w hs hd h48
  · rw [show Sp.digits d.data.toList = none from if_pos (Or.inl (nil_of hd))]
    exact (readSize_no d w hs (Or.inl (by omega))).mono fun e w' h => ⟨h.1, by rw [h.2]; exact Below.refl _ _⟩

theorem pre_yes {l : List UInt8} (h : l.head? = some 45) : Lib.hasPrefix l [45] = true ∧ Lib.trimPrefix l [45] = l.tail := by
  cases l with
  | nil => cases h
  | cons a l =>
    injection h with h
    subst h
    exact ⟨rfl, rfl⟩
theorem pre_no {l : List UInt8} (h : ¬ l.head? = some 45) : Lib.hasPrefix l [45] = false ∧ Lib.trimPrefix l [45] = l := by
  cases l with
  | nil => exact ⟨rfl, rfl⟩
  | cons a l =>
    have ha : ¬ a = 45 := fun e => h (by rw [e]; rfl)
    have e1 : Lib.hasPrefix (a :: l) [45] = false := by
      simp [Lib.hasPrefix, List.isPrefixOf]; exact fun e => ha e.symm
    exact ⟨e1, by unfold Lib.trimPrefix; rw [e1]; rfl⟩

set_option maxHeartbeats 1000000 in
theorem numRead_any (s : ByteArray) (w : World) (hs : s.size ≤ 4000) :
    Calls Tryd.prog 70 #[.string s] w fun e w' => e = .returned (numOut (Sp.number s.data.toList)) ∧ Below w.heap.size w w' := by
  have hcut := Tryd.strings_CutPrefix s ⟨#[45]⟩ w
  by_cases hm : s.data.toList.head? = some 45
  · obtain ⟨e1, e2⟩ := pre_yes hm
    have hz : ¬ s.data.toList = [48] := fun e => by rw [e] at hm; cases hm
    have en : Sp.number s.data.toList = (Sp.digits s.data.toList.tail).map (fun n => -n) := by unfold Sp.number; rw [if_neg hz, if_pos hm]
    rw [en]
    obtain ⟨d, hd⟩ : ∃ d : ByteArray, d = ⟨s.data.toList.tail.toArray⟩ := ⟨_, rfl⟩
    have hdl : d.data.toList = s.data.toList.tail := by rw [hd]
    have hds : d.size ≤ 4000 := by
      have : d.data.toList.length ≤ s.data.toList.length := by rw [hdl, List.length_tail]; omega
      rw [Array.length_toList, Array.length_toList] at this
      have a1 : d.data.size = d.size := rfl
      have a2 : s.data.size = s.size := rfl
      omega
    rw [show ((⟨#[45]⟩ : ByteArray).data.toList) = [45] from rfl, e1, e2, ← hd] at hcut
    rw [← hdl]
    clear hd e1 e2 hm hz en hdl
    have HC := hide hcut
    clear hcut
    by_cases h0 : d.data.toList = [48]
    · have h0' := toList_is h0
      have HD : Hid (Sp.digits d.data.toList = none) := by show _ = _; unfold Sp.digits; rw [h0]; simp
      go_enter Tryd.func70, Tryd.ntmps70
      go_wp2_with fail
      refine (unhide HC).mono ?_
      rintro e w1 ⟨rfl, hw⟩
      obtain rfl := hw.symm
      go_wp2
      go_ret2
      exact ⟨by rw [unhide HD]; rfl, Below.refl _ _⟩
    · have h0' := toList_ne h0
      cases hq : Sp.digits d.data.toList with
      | none =>
        have HQ := hide hq
        clear hq h0
        go_enter Tryd.func70, Tryd.ntmps70
        go_wp2_with fail
        refine (unhide HC).mono ?_
        rintro e w1 ⟨rfl, hw⟩
        obtain rfl := hw.symm
        go_wp2_with fail
        refine (readSize_any d _ hds).mono ?_
        rintro e w2 ⟨rfl, hb⟩
        rw [unhide HQ, numOut_none]
        go_wp2
        go_ret2
        exact ⟨rfl, hb⟩
      | some v =>
        have HQ := hide hq
        have hvb : 0 ≤ v ∧ v ≤ 1000000000 := by
          unfold Sp.digits at hq
          split at hq
          · cases hq
          · exact Sp.dval_bd hq
        clear hq h0
        go_enter Tryd.func70, Tryd.ntmps70
        go_wp2_with fail
        refine (unhide HC).mono ?_
        rintro e w1 ⟨rfl, hw⟩
        obtain rfl := hw.symm
        go_wp2_with fail
        refine (readSize_any d _ hds).mono ?_
        rintro e w2 ⟨rfl, hb⟩
        rw [unhide HQ, numOut_some]
        go_wp2
        go_ret2
        exact ⟨rfl, hb⟩
  · obtain ⟨e1, e2⟩ := pre_no hm
    have hse : (⟨s.data.toList.toArray⟩ : ByteArray) = s := rfl
    rw [show ((⟨#[45]⟩ : ByteArray).data.toList) = [45] from rfl, e1, e2, hse] at hcut
    have HC := hide hcut
    clear hcut e1 e2 hse
    by_cases h0 : s.data.toList = [48]
    · have h0' := toList_is h0
      rw [show Sp.number s.data.toList = some 0 from if_pos h0]
      go_enter Tryd.func70, Tryd.ntmps70
      go_wp2_with fail
      refine (unhide HC).mono ?_
      rintro e w1 ⟨rfl, hw⟩
      obtain rfl := hw.symm
      go_wp2
      go_ret2
      exact ⟨rfl, Below.refl _ _⟩
    · have h0' := toList_ne h0
      have en : Sp.number s.data.toList = Sp.digits s.data.toList := by unfold Sp.number; rw [if_neg h0, if_neg hm]
      rw [en]
      clear en hm
      cases hq : Sp.digits s.data.toList with
      | none =>
        have HQ := hide hq
        clear hq h0
        go_enter Tryd.func70, Tryd.ntmps70
        go_wp2_with fail
        refine (unhide HC).mono ?_
        rintro e w1 ⟨rfl, hw⟩
        obtain rfl := hw.symm
        go_wp2_with fail
        refine (readSize_any s _ hs).mono ?_
        rintro e w2 ⟨rfl, hb⟩
        rw [unhide HQ, numOut_none]
        go_wp2
        go_ret2
        exact ⟨rfl, hb⟩
      | some v =>
        have HQ := hide hq
        clear hq h0
        go_enter Tryd.func70, Tryd.ntmps70
        go_wp2_with fail
        refine (unhide HC).mono ?_
        rintro e w1 ⟨rfl, hw⟩
        obtain rfl := hw.symm
        go_wp2_with fail
        refine (readSize_any s _ hs).mono ?_
        rintro e w2 ⟨rfl, hb⟩
        rw [unhide HQ, numOut_some]
        go_wp2
        go_ret2
        exact ⟨rfl, hb⟩
end Go.Proofs.YteflnddphpjahaaDoor
