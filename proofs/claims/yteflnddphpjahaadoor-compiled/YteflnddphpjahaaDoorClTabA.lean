import Derived.Test.YteflnddphpjahaaDoorClLineD
import Derived.Test.YteflnddphpjahaaDoorClPlJtoPlO
import Derived.Outline
import Derived.Deep.DeepMust
/-
  The program's table of runes: comparison, search, Place, Len.
-/
set_option linter.unusedVariables false
set_option linter.unusedSimpArgs false
set_option maxRecDepth 100000
namespace Go.Proofs.YteflnddphpjahaaDoor
open Go.RowKit

theorem isNaN_rune (x : Int) (w : World) : Calls Tryd.prog 125 #[.int .i32 x] w fun e w' => e = .returned (.bool false) ∧ w' = w := by
  have h : (x != x) = false := by simp
  go_enter Tryd.func125, Tryd.ntmps125
  go_wp2
  go_ret
  exact ⟨rfl, rfl⟩

def cmpI (x y : Int) : Int := if x < y then -1 else if y < x then 1 else 0
theorem compare_rune (x y : Int) (w : World) : Calls Tryd.prog 75 #[.int .i32 x, .int .i32 y] w fun e w' => e = .returned (.int .i64 (cmpI x y)) ∧ w' = w := by
  rcases Int.lt_trichotomy x y with h | h | h
  · have e1 : cmpI x y = -1 := if_pos h
    rw [e1]; clear e1
    go_enter Tryd.func75, Tryd.ntmps75
    go_wp2_with (go_at_call 125; refine (isNaN_rune _ _).mono ?_; rintro e w' ⟨rfl, rfl⟩)
    go_ret
    exact ⟨rfl, rfl⟩
  · subst h
    have e1 : cmpI x x = 0 := by simp [cmpI]
    rw [e1]; clear e1
    have hx : ¬ x < x := Int.lt_irrefl x
    go_enter Tryd.func75, Tryd.ntmps75
    go_wp2_with (go_at_call 125; refine (isNaN_rune _ _).mono ?_; rintro e w' ⟨rfl, rfl⟩)
    go_ret
    exact ⟨rfl, rfl⟩
  · have hn : ¬ x < y := by omega
    have e1 : cmpI x y = 1 := by unfold cmpI; rw [if_neg hn, if_pos h]
    rw [e1]; clear e1
    go_enter Tryd.func75, Tryd.ntmps75
    go_wp2_with (go_at_call 125; refine (isNaN_rune _ _).mono ?_; rintro e w' ⟨rfl, rfl⟩)
    go_ret
    exact ⟨rfl, rfl⟩

theorem placeCmp (a v y : Int) (w : World) : Calls Tryd.prog 74 #[.agg #[.int .i32 a, .int .i64 v], .int .i32 y] w fun e w' => e = .returned (.int .i64 (cmpI a y)) ∧ Below w.heap.size w w' := by
  go_enter Tryd.func74, Tryd.ntmps74
  go_wp2_with (go_at_call 75; refine (compare_rune _ _ _).mono ?_; rintro e w' ⟨rfl, rfl⟩)
  go_ret
  exact ⟨rfl, (Below.refl _ _).alloc (Nat.le_refl _) _⟩

/-- The entries in memory. -/
def EntsAt (w : World) (p : Option Addr) (T : Sp.Tb) : Prop := ∀ j (h : j < T.length), ∃ g, p = some ⟨g, 0, none⟩ ∧ w.cell? ⟨g, j * 2, none⟩ = some (.int .i32 (T[j]).1) ∧ w.cell? ⟨g, j * 2 + 1, none⟩ = some (.int .i64 (T[j]).2)
theorem EntsAt.below {w w' : World} {p : Option Addr} {T : Sp.Tb} (h : EntsAt w p T) (hb : Below w.heap.size w w') : EntsAt w' p T := fun j hj => by
  obtain ⟨g, e, c0, c1⟩ := h j hj
  exact ⟨g, e, (hb.cell (World.block_lt_of_cell? w _ c0)).trans c0, (hb.cell (World.block_lt_of_cell? w _ c1)).trans c1⟩

set_option maxHeartbeats 1000000 in
theorem search_any (p : Option Addr) (cap : Nat) (T : Sp.Tb) (y : Int) (w : World) (h : EntsAt w p T) (hT : Sp.tsorted T) (hl : T.length ≤ 100000) :
    Calls Tryd.prog 73 #[.slice p T.length cap, .int .i32 y, .func (.func 74) #[] #[]] w fun e w' => e = .returned (.tuple #[.int .i64 (Sp.tlow T y : Nat), .bool (Sp.thas T y)]) ∧ Below w.heap.size w w' := by
  go_enter Tryd.func73, Tryd.ntmps73
  go_wp2
  go_loopw [9, 10] (fun a b wr => ∃ i j : Nat, i ≤ j ∧ j ≤ T.length ∧ a = .int .i64 i ∧ b = .int .i64 j ∧ Below w.heap.size w wr ∧ (∀ k (hk : k < T.length), k < i → (T[k]).1 < y) ∧ (∀ k (hk : k < T.length), j ≤ k → y ≤ (T[k]).1)) (fun a b _ => (intOf b - intOf a).toNat)
  case atStart => exact ⟨0, T.length, Nat.zero_le _, Nat.le_refl _, rfl, rfl, Below.refl _ _, fun k hk h => by omega, fun k hk h => by omega⟩
  case round =>
    obtain ⟨i, j, hij, hj, rfl, rfl, hb, hlo, hhi⟩ := hrel
    have HLO := hide hlo
    have HHI := hide hhi
    clear hlo hhi
    by_cases hlt : i < j
    · have hm0 : (i + j) / 2 < T.length := by omega
      have hm1 : i ≤ (i + j) / 2 := by omega
      have hm2 : (i + j) / 2 < j := by omega
      have hlt' : (i : Int) < (j : Int) := by omega
      obtain ⟨g, hp, c0, c1⟩ := (h.below hb) ((i + j) / 2) (by omega)
      subst hp
      obtain ⟨x, hx⟩ : ∃ x, (T[(i + j) / 2]).1 = x := ⟨_, rfl⟩
      obtain ⟨v, hv⟩ : ∃ x, (T[(i + j) / 2]).2 = x := ⟨_, rfl⟩
      rw [hx] at c0
      rw [hv] at c1
      have HX := hide hx
      clear hx hv
      by_cases hxy : x < y
      · have HC : Hid (cmpI x y = -1) := if_pos hxy
        clear hxy
        go_wp2_with (go_at_call 74; refine (placeCmp _ _ _ _).mono ?_; rintro e w' ⟨rfl, hb2⟩; rw [unhide HC])
        go_roundw
        case rel =>
          refine ⟨(i + j) / 2 + 1, j, by omega, hj, by go_num, rfl, hb.trans (hb2.mono hb.size), fun k hk hki => ?_, unhide HHI⟩
          have h1 := Sp.tsorted_le hT (i := k) (j := (i + j) / 2) (by omega) hm0
          have h2 := unhide HX
          have h3 : ¬ ¬ x < y := fun hn => by have := unhide HC; unfold cmpI at this; rw [if_neg hn] at this; split at this <;> omega
          omega
        case measure => simp [intOf]; omega
      · have HC : Hid (0 ≤ cmpI x y) := by show _ ≤ _; unfold cmpI; rw [if_neg hxy]; split <;> omega
        have HXY := hide hxy
        clear hxy
        obtain ⟨c, hc⟩ : ∃ c, cmpI x y = c := ⟨_, rfl⟩
        rw [hc] at HC
        have HC2 := hide hc
        have hc0 : 0 ≤ c := unhide HC
        clear hc
        go_wp2_with (go_at_call 74; refine (placeCmp _ _ _ _).mono ?_; rintro e w' ⟨rfl, hb2⟩; rw [unhide HC2])
        go_roundw
        case rel =>
          refine ⟨i, (i + j) / 2, by omega, by omega, rfl, by go_num, hb.trans (hb2.mono hb.size), unhide HLO, fun k hk hki => ?_⟩
          have h1 := Sp.tsorted_le hT (i := (i + j) / 2) (j := k) (by omega) hk
          have h2 := unhide HX
          have h3 := unhide HXY
          omega
        case measure => simp [intOf]; omega
    · have hji : j = i := by omega
      subst hji
      have HL : Hid (Sp.tlow T y = j) := Sp.tlow_at hj (unhide HLO) (unhide HHI)
      by_cases hjl : j < T.length
      · have hjl' : (j : Int) < (T.length : Int) := by omega
        obtain ⟨g, hp, c0, c1⟩ := (h.below hb) j hjl
        subst hp
        have HH := hide (Sp.thas_at hT y)
        obtain ⟨x, hx⟩ : ∃ x, (T[j]).1 = x := ⟨_, rfl⟩
        obtain ⟨v, hv⟩ : ∃ x, (T[j]).2 = x := ⟨_, rfl⟩
        rw [hx] at c0
        rw [hv] at c1
        have HX := hide hx
        clear hx hv
        obtain ⟨c, hc⟩ : ∃ c, cmpI x y = c := ⟨_, rfl⟩
        have HC2 := hide hc
        have HE : Hid (Sp.thas T y = (c == 0)) := by
          show _ = _
          have h1 : (c == 0) = decide (x = y) := by
            rw [← hc]; unfold cmpI
            rcases Int.lt_trichotomy x y with h | h | h
            · rw [if_pos h, decide_eq_false (by omega)]; rfl
            · subst h; simp
            · rw [if_neg (by omega), if_pos h, decide_eq_false (by omega)]; rfl
          rw [h1]
          apply Bool.eq_iff_iff.2
          rw [unhide HH, decide_eq_true_iff]
          constructor
          · rintro ⟨hq, e⟩
            have e2 : T[Sp.tlow T y] = T[j] := by congr 1 <;> exact unhide HL
            rw [e2] at e; rw [← e]; exact (unhide HX).symm
          · intro e
            have e2 : T[Sp.tlow T y]'(by rw [unhide HL]; exact hjl) = T[j] := by congr 1 <;> exact unhide HL
            exact ⟨by rw [unhide HL]; exact hjl, by rw [e2]; exact (unhide HX).trans e⟩
        clear hc
        go_wp2_with (go_at_call 74; refine (placeCmp _ _ _ _).mono ?_; rintro e w' ⟨rfl, hb2⟩; rw [unhide HC2])
        exact bodyPost_ret (v := .tuple #[.int .i64 j, .bool (c == 0)]) (by simp [results, Tryd.results73, go_sem]) rfl ⟨by rw [unhide HL, unhide HE], hb.trans (hb2.mono hb.size)⟩
      · have hjl' : ¬ (j : Int) < (T.length : Int) := by omega
        have hj2 : (T.length : Int) ≤ (j : Int) := by omega
        have HE : Hid (Sp.thas T y = false) := by
          show _ = _
          cases hq : Sp.thas T y with
          | false => rfl
          | true => obtain ⟨h1, _⟩ := (Sp.thas_at hT y).1 hq; rw [unhide HL] at h1; omega
        go_wp2
        exact bodyPost_ret (v := .tuple #[.int .i64 j, .bool false]) (by simp [results, Tryd.results73, go_sem]) rfl ⟨by rw [unhide HL, unhide HE], hb⟩
end Go.Proofs.YteflnddphpjahaaDoor
