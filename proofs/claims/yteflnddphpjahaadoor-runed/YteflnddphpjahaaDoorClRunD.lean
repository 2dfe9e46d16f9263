import Derived.Test.YteflnddphpjahaaDoorClRunC
import Derived.Deep.DeepCutAuto
import Derived.Maps.AppendAt
/-
  Runed's own functions: runes.
-/
set_option linter.unusedVariables false
set_option linter.unusedSimpArgs false
set_option maxRecDepth 100000
namespace Go.Proofs.YteflnddphpjahaaDoor
open Go.RowKit

/-- The numbers that came in, as they lie. -/
def RawAt (w : World) (p : Option Addr) (n : Nat) : Prop := ∀ j, j < n → ∃ a : Addr, ∃ x : Int, p = some a ∧ a.block < w.heap.size ∧ w.cell? (a.add j) = some (.int .i64 x) ∧ -9223372036854775808 ≤ x ∧ x ≤ 9223372036854775807
theorem RawAt.below {w w' : World} {p : Option Addr} {n : Nat} (h : RawAt w p n) (hb : Below w.heap.size w w') : RawAt w' p n := fun j hj => by
  obtain ⟨a, x, e, h1, h2, h3⟩ := h j hj
  exact ⟨a, x, e, Nat.lt_of_lt_of_le h1 hb.size, (hb.cell (p := a.add j) (by have e : (a.add j).block = a.block := (by unfold Addr.add; split <;> simp_all); rw [e]; exact h1)).trans h2, h3⟩
def nats (R : List Nat) : List Value := R.map fun (r : Nat) => Value.int .i64 (r : Int)
/-- What runes hands back. -/
def RnPost (w : World) (e : Ending) (w' : World) : Prop := Below w.heap.size w w' ∧ ∃ v R, e = .returned v ∧ w'.ownsRow w.heap.size 3 1 v R.length (nats R) ∧ R.length ≤ 64 ∧ R.Nodup ∧ ∀ r ∈ R, Sp.okR r

set_option maxHeartbeats 2000000 in
theorem runes_any (p : Option Addr) (n cap : Nat) (w : World) (h : RawAt w p n) (hn : n ≤ 9223372036854775807) : Calls Tryd.prog 9 #[.slice p n cap] w (RnPost w) := by
  obtain ⟨i0, hi, hz0, hz1, hz2⟩ := info_parts Tryd.info_int
  go_enter Tryd.func9, Tryd.ntmps9
  go_wp2
  go_loopw [3, 4] (fun v u wr => ∃ (i : Nat) (R : List Nat), u = .int .i64 i ∧ i ≤ n ∧ Below w.heap.size w wr ∧ wr.ownsRow w.heap.size 3 1 v R.length (nats R) ∧ R.length ≤ 64 ∧ Hid (R.Nodup ∧ ∀ r ∈ R, Sp.okR r)) (fun _ u _ => n - (intOf u).toNat)
  case atStart => exact ⟨0, [], rfl, Nat.zero_le _, Below.refl _ _, World.ownsRow_nil _ _ _ _, by simp, ⟨List.nodup_nil, fun r hr => by simp at hr⟩⟩
  case round =>
    obtain ⟨i, R, rfl, hin, hb, ho, hl, HR⟩ := hrel
    obtain ⟨pv, kv, rfl, hcs⟩ := own_slice ho
    by_cases hlt : i < n ∧ R.length < 64
    · obtain ⟨hlt1, hlt2⟩ := hlt
      have hlt1z : (i : Int) < (n : Int) := by omega
      have hlt2z : (R.length : Int) < 64 := by omega
      obtain ⟨a, x, rfl, ha1, ha2, ha3, ha4⟩ := (h.below hb) i hlt1
      go_upto_region 6 with (go_at_call 10; refine (pick_any x 1114112 _ ha3 ha4 (by omega) (by omega)).mono ?_; rintro e w1 ⟨⟨r, rfl, hr⟩, hw1⟩; obtain rfl := hw1.symm)
      obtain ⟨b0, HB0⟩ : ∃ b0 : Bool, Hid (b0 = decide (r = 32 ∨ r = 10 ∨ r = 62 ∨ (55296 ≤ r ∧ r < 57344))) := ⟨_, rfl⟩
      have hrz : (r : Int) < 1114112 := by omega
      go_cut [6] (fun t wx => t = .bool b0 ∧ wx = wr)
      case first =>
        by_cases c1 : r = 32
        · have g1 : ((r : Int) == 32) = true := by rw [beq_iff_eq]; omega
          go_wp2
          go_meet
          exact ⟨by rw [unhide HB0, decide_eq_true (by omega)], rfl⟩
        · have g1 : ((r : Int) == 32) = false := by rw [beq_eq_false_iff_ne]; omega
          by_cases c2 : r = 10
          · have g2 : ((r : Int) == 10) = true := by rw [beq_iff_eq]; omega
            go_wp2
            go_meet
            exact ⟨by rw [unhide HB0, decide_eq_true (by omega)], rfl⟩
          · have g2 : ((r : Int) == 10) = false := by rw [beq_eq_false_iff_ne]; omega
            by_cases c3 : r = 62
            · have g3 : ((r : Int) == 62) = true := by rw [beq_iff_eq]; omega
              go_wp2
              go_meet
              exact ⟨by rw [unhide HB0, decide_eq_true (by omega)], rfl⟩
            · have g3 : ((r : Int) == 62) = false := by rw [beq_eq_false_iff_ne]; omega
              by_cases c4 : 55296 ≤ r
              · have g4 : (55296 : Int) ≤ (r : Int) := by omega
                by_cases c5 : r < 57344
                · have g5 : (r : Int) < 57344 := by omega
                  go_wp2
                  go_meet
                  exact ⟨by rw [unhide HB0, decide_eq_true (by omega)], rfl⟩
                · have g5 : ¬ (r : Int) < 57344 := by omega
                  go_wp2
                  go_meet
                  exact ⟨by rw [unhide HB0, decide_eq_false (by omega)], rfl⟩
              · have g4 : ¬ (55296 : Int) ≤ (r : Int) := by omega
                go_wp2
                go_meet
                exact ⟨by rw [unhide HB0, decide_eq_false (by omega)], rfl⟩
      case rest =>
      obtain ⟨rfl, hwc⟩ := hcut
      obtain rfl := hwc.symm
      clear hwc
      go_wp2
      go_loopw [6, 7] (fun t u wr2 => ∃ (bb : Bool) (k : Nat), t = .bool bb ∧ u = .int .i64 k ∧ k ≤ R.length ∧ wr2 = wr ∧ Hid (bb = false → b0 = false ∧ r ∉ R.take k)) (fun _ u _ => R.length - (intOf u).toNat)
      case atStart => exact ⟨b0, 0, rfl, rfl, Nat.zero_le _, rfl, fun hb => ⟨hb, by simp⟩⟩
      case round =>
        obtain ⟨bb, k, rfl, rfl, hk, hwr, HBB⟩ := hrel
        obtain rfl := hwr.symm
        clear hwr
        by_cases hkl : k < R.length
        · have hklz : (k : Int) < (R.length : Int) := by omega
          obtain ⟨g, rfl, hg1, hg2, hg3⟩ := hcs k (by omega)
          have hg4 : wr.cell? ⟨g, k, none⟩ = some (.int .i64 (R[k] : Int)) := by rw [hg3]; simp [nats, hkl]
          clear hg3
          cases bb with
          | true =>
            go_wp2
            go_roundw
            case rel => exact ⟨true, k + 1, rfl, by go_num, by omega, by trivial, fun hb => by cases hb⟩
            case measure => simp [intOf]; omega
          | false =>
            by_cases ce : R[k] = r
            · have ge : ((R[k] : Int) == (r : Int)) = true := by rw [beq_iff_eq]; omega
              go_wp2
              go_roundw
              case rel => exact ⟨true, k + 1, rfl, by go_num, by omega, by trivial, fun hb => by cases hb⟩
              case measure => simp [intOf]; omega
            · have ge : ((R[k] : Int) == (r : Int)) = false := by rw [beq_eq_false_iff_ne]; omega
              have HN : Hid (b0 = false ∧ r ∉ R.take (k + 1)) := by
                obtain ⟨h1, h2⟩ := (unhide HBB) rfl
                refine ⟨h1, ?_⟩
                rw [List.take_succ_eq_append_getElem hkl, List.mem_append, List.mem_singleton]
                rintro (hm | hm)
                · exact h2 hm
                · exact ce hm.symm
              go_wp2
              go_roundw
              case rel => exact ⟨false, k + 1, rfl, by go_num, by omega, by trivial, fun _ => unhide HN⟩
              case measure => simp [intOf]; omega
        · have hklz : ¬ (k : Int) < (R.length : Int) := by omega
          obtain rfl : k = R.length := by omega
          cases bb with
          | true =>
            go_wp2
            go_roundw
            case rel => exact ⟨i + 1, R, by go_num, by omega, hb, ho, hl, HR⟩
            case measure => simp [intOf]; omega
          | false =>
            have HN : Hid ((R ++ [r]).Nodup ∧ ∀ q ∈ R ++ [r], Sp.okR q) := by
              obtain ⟨h1, h2⟩ := (unhide HBB) rfl
              rw [List.take_length] at h2
              rw [unhide HB0] at h1
              have h3 := of_decide_eq_false h1
              refine ⟨List.nodup_append.2 ⟨(unhide HR).1, by simp, ?_⟩, ?_⟩
              · intro a' ha' b' hb' hab
                simp only [List.mem_singleton] at hb'
                rw [hab, hb'] at ha'
                exact h2 ha'
              · intro q hq
                rcases List.mem_append.1 hq with hq | hq
                · exact (unhide HR).2 q hq
                · rw [List.mem_singleton.1 hq]
                  exact ⟨⟨hr, by omega⟩, by omega, by omega, by omega⟩
            have hbs := hb.size
            go_wp2_with (at_builtin; go_must (refine wpList_append_own _ rfl _ _ 32 rfl w.heap.size 3 i0 _ 1 8 Tryd.underlying32 hi hz0 hz1 hz2 rfl (by decide) (.slice pv R.length kv) _ _ rfl (ho.alloc _) ⟨wr.heap.size, 0, none⟩ 1 1 [.int .i64 (r : Int)] rfl rfl (cell_one_new _ _ _) (by simp [Value.oneCell']) (by unfold maxLen; omega) (by omega) (by simp; omega) ?_); intro v' w2 hown2 hgrow2 _)
            go_roundw
            case rel => exact ⟨i + 1, R ++ [r], by go_num, by omega, (hb.alloc hbs (.cells #[.int .i64 (r : Int)] 3)).grown hgrow2 (by simp; omega) (fun q hq => ((ho.alloc (.cells #[.int .i64 (r : Int)] 3)).lt q hq).1), by simpa [nats] using hown2, by simp; omega, HN⟩
            case measure => simp [intOf]; omega
    · have hlt' : ¬ i < n ∨ ¬ R.length < 64 := by omega
      by_cases h1 : i < n
      · have h1z : (i : Int) < (n : Int) := by omega
        have h2z : ¬ (R.length : Int) < 64 := by omega
        go_wp2
        go_ret
        exact ⟨hb, _, R, rfl, ho, hl, (unhide HR).1, (unhide HR).2⟩
      · have h1z : ¬ (i : Int) < (n : Int) := by omega
        go_wp2
        go_ret
        exact ⟨hb, _, R, rfl, ho, hl, (unhide HR).1, (unhide HR).2⟩
end Go.Proofs.YteflnddphpjahaaDoor
