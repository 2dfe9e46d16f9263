import Derived.Test.YteflnddphpjahaaProg
import Derived.Test.YteflnddphpjahaaClComtoCopyK
import Derived.Test.YteflnddphpjahaaClDpA
import Derived.WalkKit
import Derived.Outline
import Derived.Deep.DeepMust
import Derived.Laws.Cover1
/-
  The program's table of names: comparison, search, Place.
-/
set_option linter.unusedVariables false
set_option linter.unusedSimpArgs false
set_option maxRecDepth 100000
namespace Go.Proofs.Yteflnddphpjahaa.Dk
open Go.RowKit

theorem isNaN_str (x : ByteArray) (w : World) : Calls Try.prog 80 #[.string x] w fun e w' => e = .returned (.bool false) ∧ w' = w := by
  have h : (x.toList == x.toList) = true := by simp
  go_enter Try.func80, Try.ntmps80
  go_wp2
  go_ret
  exact ⟨rfl, rfl⟩
/-- A pointer to a file. -/
def fptr (f : Nat) : Value := .pointer (some ⟨f, 0, none⟩)
def cmpS (x y : ByteArray) : Int := if Sd.lt x y = true then -1 else if Sd.lt y x = true then 1 else 0
theorem compare_str (x y : ByteArray) (w : World) : Calls Try.prog 78 #[.string x, .string y] w fun e w' => e = .returned (.int .i64 (cmpS x y)) ∧ w' = w := by
  rcases Sd.lt_tri x y with h | h | h
  · have e1 : cmpS x y = -1 := if_pos h
    have e2 : Op.bytesLess x.toList y.toList = true := h
    rw [e1]; clear e1 h
    go_enter Try.func78, Try.ntmps78
    go_wp2_with (go_at_call 80; refine (isNaN_str _ _).mono ?_; rintro e w' ⟨rfl, rfl⟩)
    go_ret
    exact ⟨rfl, rfl⟩
  · subst h
    have e1 : cmpS x x = 0 := by simp [cmpS, Sd.lt_irrefl]
    have e2 : Op.bytesLess x.toList x.toList = false := Sd.lt_irrefl x
    have e3 : (x.toList == x.toList) = true := by simp
    rw [e1]; clear e1
    go_enter Try.func78, Try.ntmps78
    go_wp2_with (go_at_call 80; refine (isNaN_str _ _).mono ?_; rintro e w' ⟨rfl, rfl⟩)
    go_ret
    exact ⟨rfl, rfl⟩
  · have e1 : cmpS x y = 1 := by unfold cmpS; rw [Sd.lt_asymm h, if_neg (by decide), if_pos h]
    have e2 : Op.bytesLess x.toList y.toList = false := Sd.lt_asymm h
    have e3 : (x.toList == y.toList) = false := by
      apply Bool.eq_false_iff.2
      intro hh
      exact Sd.lt_ne h (Sd.toList_inj (eq_of_beq hh)).symm
    rw [e1]; clear e1 h
    go_enter Try.func78, Try.ntmps78
    go_wp2_with (go_at_call 80; refine (isNaN_str _ _).mono ?_; rintro e w' ⟨rfl, rfl⟩)
    go_ret
    exact ⟨rfl, rfl⟩

theorem placeCmp (a : ByteArray) (v : Value) (y : ByteArray) (w : World) : Calls Try.prog 77 #[.agg #[.string a, v], .string y] w fun e w' => e = .returned (.int .i64 (cmpS a y)) ∧ Below w.heap.size w w' := by
  go_enter Try.func77, Try.ntmps77
  go_wp2_with (go_at_call 78; refine (compare_str _ _ _).mono ?_; rintro e w' ⟨rfl, rfl⟩)
  go_ret
  exact ⟨rfl, (Below.refl _ _).alloc (Nat.le_refl _) _⟩

/-- The entries in memory. -/
def EntsAt (w : World) (p : Option Addr) (T : Sd.Tb) : Prop := ∀ j (h : j < T.length), ∃ g, p = some ⟨g, 0, none⟩ ∧ w.cell? ⟨g, j * 2, none⟩ = some (.string (T[j]).1) ∧ w.cell? ⟨g, j * 2 + 1, none⟩ = some (fptr (T[j]).2)
theorem EntsAt.below {w w' : World} {p : Option Addr} {T : Sd.Tb} (h : EntsAt w p T) (hb : Below w.heap.size w w') : EntsAt w' p T := fun j hj => by
  obtain ⟨g, e, c0, c1⟩ := h j hj
  exact ⟨g, e, (hb.cell (World.block_lt_of_cell? w _ c0)).trans c0, (hb.cell (World.block_lt_of_cell? w _ c1)).trans c1⟩

set_option maxHeartbeats 1000000 in
theorem search_any (p : Option Addr) (cap : Nat) (T : Sd.Tb) (y : ByteArray) (w : World) (h : EntsAt w p T) (hT : Sd.tsorted T) (hl : T.length ≤ 100000) :
    Calls Try.prog 76 #[.slice p T.length cap, .string y, .func (.func 77) #[] #[]] w fun e w' => e = .returned (.tuple #[.int .i64 (Sd.tlow T y : Nat), .bool (Sd.thas T y)]) ∧ Below w.heap.size w w' := by
  go_enter Try.func76, Try.ntmps76
  go_wp2
  go_loopw [9, 10] (fun a b wr => ∃ i j : Nat, i ≤ j ∧ j ≤ T.length ∧ a = .int .i64 i ∧ b = .int .i64 j ∧ Below w.heap.size w wr ∧ (∀ k (hk : k < T.length), k < i → Sd.lt (T[k]).1 y = true) ∧ (∀ k (hk : k < T.length), j ≤ k → Sd.lt (T[k]).1 y = false)) (fun a b _ => (intOf b - intOf a).toNat)
  case atStart => exact ⟨0, T.length, Nat.zero_le _, Nat.le_refl _, rfl, rfl, Below.refl _ _, fun k hk h => by omega, fun k hk h => by omega⟩
  case round =>
    obtain ⟨i, j, hij, hj, rfl, rfl, hb, hlo, hhi⟩ := hrel
    have HLO := hide hlo
    have HHI := hide hhi
    clear hlo hhi
    by_cases hlt : i < j
    · have hm0 : (i + j) / 2 < T.length := by omega
      have hm1 : i ≤ (i + j) / 2 := by omega
      have hm2 : (i + j) / 2 < j := by omega
      have hlt' : (i : Int) < (j : Int) := by omega
      obtain ⟨g, hp, c0, c1⟩ := (h.below hb) ((i + j) / 2) (by omega)
      subst hp
      obtain ⟨x, hx⟩ : ∃ x, (T[(i + j) / 2]).1 = x := ⟨_, rfl⟩
      obtain ⟨v, hv⟩ : ∃ x, (T[(i + j) / 2]).2 = x := ⟨_, rfl⟩
      rw [hx] at c0
      rw [hv] at c1
      have HX := hide hx
      clear hx hv
      cases hxy : Sd.lt x y with
      | true =>
        have HXY := hide hxy
        have HC : Hid (cmpS x y = -1) := if_pos hxy
        clear hxy
        go_wp2_with (go_at_call 77; refine (placeCmp _ _ _ _).mono ?_; rintro e w' ⟨rfl, hb2⟩; rw [unhide HC])
        go_roundw
        case rel =>
          refine ⟨(i + j) / 2 + 1, j, by omega, hj, by go_num, rfl, hb.trans (hb2.mono hb.size), fun k hk hki => ?_, unhide HHI⟩
          have h1 := Sd.tsorted_le hT (i := k) (j := (i + j) / 2) (by omega) hm0
          rw [unhide HX] at h1
          exact Sd.lt_of_le h1 (unhide HXY)
        case measure => simp [intOf]; omega
      | false =>
        have HC : Hid (0 ≤ cmpS x y) := by show _ ≤ _; unfold cmpS; rw [hxy]; simp; split <;> omega
        have HXY := hide hxy
        clear hxy
        obtain ⟨c, hc⟩ : ∃ c, cmpS x y = c := ⟨_, rfl⟩
        rw [hc] at HC
        have HC2 := hide hc
        have hc0 : 0 ≤ c := unhide HC
        clear hc
        go_wp2_with (go_at_call 77; refine (placeCmp _ _ _ _).mono ?_; rintro e w' ⟨rfl, hb2⟩; rw [unhide HC2])
        go_roundw
        case rel =>
          refine ⟨i, (i + j) / 2, by omega, by omega, rfl, by go_num, hb.trans (hb2.mono hb.size), unhide HLO, fun k hk hki => ?_⟩
          have h1 := Sd.tsorted_le hT (i := (i + j) / 2) (j := k) (by omega) hk
          rw [unhide HX] at h1
          cases h2 : Sd.lt (T[k]).1 y with
          | false => rfl
          | true => have := Sd.lt_of_le h1 h2; rw [unhide HXY] at this; cases this
        case measure => simp [intOf]; omega
    · have hji : j = i := by omega
      subst hji
      have HL : Hid (Sd.tlow T y = j) := Sd.tlow_at hj (unhide HLO) (unhide HHI)
      by_cases hjl : j < T.length
      · have hjl' : (j : Int) < (T.length : Int) := by omega
        obtain ⟨g, hp, c0, c1⟩ := (h.below hb) j hjl
        subst hp
        have HH := hide (Sd.thas_at hT y)
        obtain ⟨x, hx⟩ : ∃ x, (T[j]).1 = x := ⟨_, rfl⟩
        obtain ⟨v, hv⟩ : ∃ x, (T[j]).2 = x := ⟨_, rfl⟩
        rw [hx] at c0
        rw [hv] at c1
        have HX := hide hx
        clear hx hv
        obtain ⟨c, hc⟩ : ∃ c, cmpS x y = c := ⟨_, rfl⟩
        have HC2 := hide hc
        have HE : Hid (Sd.thas T y = (c == 0)) := by
          show _ = _
          have h1 : (c == 0) = decide (x = y) := by
            rw [← hc]; unfold cmpS
            rcases Sd.lt_tri x y with h | h | h
            · rw [if_pos h, decide_eq_false (Sd.lt_ne h)]; rfl
            · subst h; simp [Sd.lt_irrefl]
            · rw [Sd.lt_asymm h, if_neg (by decide), if_pos h, decide_eq_false (fun e => Sd.lt_ne h e.symm)]; rfl
          rw [h1]
          apply Bool.eq_iff_iff.2
          rw [unhide HH, decide_eq_true_iff]
          constructor
          · rintro ⟨hq, e⟩
            have e2 : T[Sd.tlow T y] = T[j] := by congr 1 <;> exact unhide HL
            rw [e2] at e; rw [← e]; exact (unhide HX).symm
          · intro e
            have e2 : T[Sd.tlow T y]'(by rw [unhide HL]; exact hjl) = T[j] := by congr 1 <;> exact unhide HL
            exact ⟨by rw [unhide HL]; exact hjl, by rw [e2]; exact (unhide HX).trans e⟩
        clear hc
        go_wp2_with (go_at_call 77; refine (placeCmp _ _ _ _).mono ?_; rintro e w' ⟨rfl, hb2⟩; rw [unhide HC2])
        exact bodyPost_ret (v := .tuple #[.int .i64 j, .bool (c == 0)]) (by simp [results, Try.results76, go_sem]) rfl ⟨by rw [unhide HL, unhide HE], hb.trans (hb2.mono hb.size)⟩
      · have hjl' : ¬ (j : Int) < (T.length : Int) := by omega
        have hj2 : (T.length : Int) ≤ (j : Int) := by omega
        have HE : Hid (Sd.thas T y = false) := by
          show _ = _
          cases hq : Sd.thas T y with
          | false => rfl
          | true => obtain ⟨h1, _⟩ := (Sd.thas_at hT y).1 hq; rw [unhide HL] at h1; omega
        go_wp2
        exact bodyPost_ret (v := .tuple #[.int .i64 j, .bool false]) (by simp [results, Try.results76, go_sem]) rfl ⟨by rw [unhide HL, unhide HE], hb⟩
end Go.Proofs.Yteflnddphpjahaa.Dk
