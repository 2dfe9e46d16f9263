import Derived.Test.YteflnddphpjahaaDoorClHeldE
import Derived.Outline
import Derived.Deep.DeepMust
import Derived.Deep.RegionHeld3
import Derived.Deep.QuietTactic
import Derived.BigQuiet
/-
  The lists that are held: the walk of dry.
-/
set_option linter.unusedVariables false
set_option linter.unusedSimpArgs false
set_option maxRecDepth 100000
namespace Go.Proofs.YteflnddphpjahaaDoor
open Go.RowKit

theorem rep_get (mk : List Value) (n k j : Nat) (u : Value) (hk : k < n) (hj : j < mk.length) (hu : mk[j]? = some u) : (rep mk n)[k * mk.length + j]? = some u := by
  induction n with
  | zero => omega
  | succ n ih =>
    have hl := rep_len mk n
    simp only [rep]
    by_cases h : k < n
    · have h1 : k * mk.length + j < (rep mk n).length := by
        rw [hl]
        have : (k + 1) * mk.length ≤ n * mk.length := Nat.mul_le_mul_right _ h
        rw [Nat.succ_mul] at this; omega
      rw [List.getElem?_append_left h1]; exact ih h
    · obtain rfl : k = n := by omega
      rw [List.getElem?_append_right (by omega), hl, Nat.add_sub_cancel_left]; exact hu
theorem hCells_get (l : List (Value × Int)) : ∀ (i : Nat) (h : i < l.length), (hCells l)[i * 2]? = some l[i].1 ∧ (hCells l)[i * 2 + 1]? = some (.int .i64 l[i].2) := by
  induction l with
  | nil => intro i h; simp at h
  | cons p l ih =>
    intro i h
    cases i with
    | zero => exact ⟨rfl, rfl⟩
    | succ i =>
      have := ih i (by simpa using h)
      have e : hCells (p :: l) = [p.1, Value.int .i64 p.2] ++ hCells l := rfl
      have a0 : (i + 1) * 2 = i * 2 + 2 := by omega
      rw [e, a0]
      simp only [List.cons_append, List.nil_append, List.getElem_cons_succ]
      exact this
/-- An entry of a list of held lists, as it lies. -/
theorem entry_at {w : World} {B e : Nat} {v : Value} {l : List (Value × Int)} (h : w.ownsRow B e 2 v l.length (hCells l)) (i : Nat) (hi : i < l.length) :
    ∃ g cap, v = .slice (some ⟨g, 0, none⟩) l.length cap ∧ w.cell? ⟨g, i * 2, none⟩ = some l[i].1 ∧ w.cell? ⟨g, i * 2 + 1, none⟩ = some (.int .i64 l[i].2) := by
  obtain ⟨g, cap, rfl⟩ := own_form h (by omega)
  obtain ⟨e1, e2⟩ := hCells_get l i hi
  exact ⟨g, cap, rfl, (h.cellAt _ (by omega)).trans e1, (h.cellAt _ (by omega)).trans e2⟩
/-- A held list, as it lies. -/
theorem marked_at {w : World} {e size : Nat} {mk : Int → List Value} {p : Value × Int} (h : Marked w e size mk p) (hs : ∀ m, (mk m).length = size) :
    ∃ q n cap, p.1 = .slice q n cap ∧ n ≤ 100000 ∧ ∀ k, k < n → ∃ g, q = some ⟨g, 0, none⟩ ∧ ∀ j u, (mk p.2)[j]? = some u → w.cell? ⟨g, k * size + j, none⟩ = some u := by
  obtain ⟨n, hn, ho⟩ := h
  obtain ⟨q, cap, hq, hc⟩ := own_slice ho
  refine ⟨q, n, cap, hq, hn, fun k hk => ?_⟩
  cases q with
  | none =>
    rcases ho.2 with ⟨h1, h2⟩ | ⟨g', cap', cur, h1, _⟩
    · omega
    · rw [hq] at h1; cases h1
  | some a =>
    rcases ho.2 with ⟨h1, h2⟩ | ⟨g', cap', cur, h1, _⟩
    · omega
    · rw [hq] at h1
      injection h1 with h1 _ h3
      injection h1 with h1
      subst h1
      refine ⟨g', rfl, fun j u hu => ?_⟩
      have hj : j < size := by have := (List.getElem?_eq_some_iff.1 hu).1; rw [hs] at this; exact this
      have hlt : k * size + j < n * size := by
        have : (k + 1) * size ≤ n * size := Nat.mul_le_mul_right _ hk
        rw [Nat.succ_mul] at this; omega
      obtain ⟨g2, e2, _, _, e3⟩ := hc (k * size + j) hlt
      injection e2 with e2
      injection e2 with e2
      subst e2
      rw [e3]
      have := rep_get (mk p.2) n k j u hk (by rw [hs]; exact hj) hu
      rw [hs] at this; exact this

set_option maxHeartbeats 8000000 in
theorem dry_any (H N : Nat) (v1 v2 v3 : Value) (hv hn he : List (Value × Int)) (w : World) (h : HeldSt w H N v1 v2 v3 hv hn he) (b1 : ∀ p ∈ hv, 0 ≤ p.2 ∧ p.2 ≤ 1099511628783) (b2 : ∀ p ∈ hn, 0 ≤ p.2 ∧ p.2 ≤ 1099511628783) (b3 : ∀ p ∈ he, 0 ≤ p.2 ∧ p.2 ≤ 1099511628783) :
    Calls Tryd.prog 7 #[.pointer (some ⟨H, 0, none⟩)] w fun e w' => e = .returned (.bool true) ∧ Below w.heap.size w w' := by
  go_enter Tryd.func7, Tryd.ntmps7
  go_wp2_with fail
  have hsm := h.small
  go_loopw [3, 4] (fun ok i wr => ∃ k : Nat, k ≤ hv.length ∧ i = .int .i64 k ∧ ok = .bool true ∧ Below w.heap.size w wr) (fun _ i _ => hv.length - (intOf i).toNat)
  case atStart => exact ⟨0, Nat.zero_le _, rfl, rfl, Below.refl _ _⟩
  case round =>
    obtain ⟨k, hk, rfl, rfl, hb⟩ := hrel
    have hr := h.below hb
    have c1 := hr.c1
    by_cases hlt : k < hv.length
    · obtain ⟨G, cap, hG, e0, e1⟩ := entry_at hr.r1 k hlt
      rw [hG] at c1
      obtain ⟨q, n, cq, hq, hn9, hcq⟩ := marked_at (hr.m1 hv[k] (List.getElem_mem hlt)) (fun _ => rfl)
      rw [hq] at e0
      have HQ := hide hq
      have HG := hide hG
      clear hq hG
      go_wp2_with fail
      go_loopw [3, 5] (fun ok i wr => ∃ j : Nat, j ≤ n ∧ i = .int .i64 j ∧ ok = .bool true ∧ Below w.heap.size w wr) (fun _ i _ => n - (intOf i).toNat)
      case atStart => exact ⟨0, Nat.zero_le _, rfl, rfl, hb⟩
      case round =>
        clear hr c1 e0 e1 hcq hb
        obtain ⟨j, hj, rfl, rfl, hb⟩ := hrel
        have hr := h.below hb
        have c1 := hr.c1
        rw [unhide HG] at c1
        obtain ⟨G', cap', e', e0, e1⟩ := entry_at hr.r1 k hlt
        rw [unhide HG] at e'
        injection e' with e' _ e''
        injection e' with e'
        injection e' with e'
        subst e' e''
        obtain ⟨q', n', cq', hq', _, hcq⟩ := marked_at (hr.m1 hv[k] (List.getElem_mem hlt)) (fun _ => rfl)
        rw [unhide HQ] at hq'
        injection hq' with e1' e2' e3'
        subst e1' e2' e3'
        rw [unhide HQ] at e0
        by_cases hltj : j < n
        · obtain ⟨g, rfl, hc⟩ := hcq j hltj
          have hk0 : (0 : Int) ≤ (k : Int) := Int.natCast_nonneg _
          have hk1 : (k : Int) < (hv.length : Int) := by omega
          have hj0 : (0 : Int) ≤ (j : Int) := Int.natCast_nonneg _
          have hj1 : (j : Int) < (n : Int) := by omega
          obtain ⟨bm0, bm1⟩ := b1 hv[k] (List.getElem_mem hlt)
          generalize hv[k].2 = m at e1 hc bm0 bm1
          have hc0 := hc 0 _ rfl
          simp only [Nat.mul_one, Nat.add_zero] at hc0
          clear hc
          have hmm : (m == m) = true := beq_iff_eq.2 rfl
          go_wp2_with fail
          go_quiet (fail)
          go_wp2
          go_roundw
          case rel => exact ⟨j + 1, by omega, by go_num, by trivial, hb.trans ((below_drewN _ _).mono hb.size)⟩
          case measure => simp [intOf]; omega
        · obtain rfl : j = n := by omega
          go_wp2
          go_roundw
          case rel => exact ⟨k + 1, by omega, by go_num, by trivial, hb⟩
          case measure => simp [intOf]; omega
    · obtain rfl : k = hv.length := by omega
      obtain ⟨p1, k1, hp1, _⟩ := own_slice hr.r1
      rw [hp1] at c1
      clear hp1
      go_wp2_with fail
      go_loopw [3, 6] (fun ok i wr => ∃ k : Nat, k ≤ hn.length ∧ i = .int .i64 k ∧ ok = .bool true ∧ Below w.heap.size w wr) (fun _ i _ => hn.length - (intOf i).toNat)
      case atStart => exact ⟨0, Nat.zero_le _, rfl, rfl, hb⟩
      case round =>
        clear hr c1 hb
        obtain ⟨k, hk, rfl, rfl, hb⟩ := hrel
        have hr := h.below hb
        have c1 := hr.c2
        by_cases hlt : k < hn.length
        · obtain ⟨G, cap, hG, e0, e1⟩ := entry_at hr.r2 k hlt
          rw [hG] at c1
          obtain ⟨q, n, cq, hq, hn9, hcq⟩ := marked_at (hr.m2 hn[k] (List.getElem_mem hlt)) (fun _ => rfl)
          rw [hq] at e0
          have HQ := hide hq
          have HG := hide hG
          clear hq hG
          go_wp2_with fail
          go_loopw [3, 7] (fun ok i wr => ∃ j : Nat, j ≤ n ∧ i = .int .i64 j ∧ ok = .bool true ∧ Below w.heap.size w wr) (fun _ i _ => n - (intOf i).toNat)
          case atStart => exact ⟨0, Nat.zero_le _, rfl, rfl, hb⟩
          case round =>
            clear hr c1 e0 e1 hcq hb
            obtain ⟨j, hj, rfl, rfl, hb⟩ := hrel
            have hr := h.below hb
            have c1 := hr.c2
            rw [unhide HG] at c1
            obtain ⟨G', cap', e', e0, e1⟩ := entry_at hr.r2 k hlt
            rw [unhide HG] at e'
            injection e' with e' _ e''
            injection e' with e'
            injection e' with e'
            subst e' e''
            obtain ⟨q', n', cq', hq', _, hcq⟩ := marked_at (hr.m2 hn[k] (List.getElem_mem hlt)) (fun _ => rfl)
            rw [unhide HQ] at hq'
            injection hq' with e1' e2' e3'
            subst e1' e2' e3'
            rw [unhide HQ] at e0
            by_cases hltj : j < n
            · obtain ⟨g, rfl, hc⟩ := hcq j hltj
              have hk0 : (0 : Int) ≤ (k : Int) := Int.natCast_nonneg _
              have hk1 : (k : Int) < (hn.length : Int) := by omega
              have hj0 : (0 : Int) ≤ (j : Int) := Int.natCast_nonneg _
              have hj1 : (j : Int) < (n : Int) := by omega
              obtain ⟨bm0, bm1⟩ := b2 hn[k] (List.getElem_mem hlt)
              generalize hn[k].2 = m at e1 hc bm0 bm1
              have hc0 := hc 0 _ rfl
              simp only [Nat.mul_one, Nat.add_zero] at hc0
              clear hc
              have hmm : (m % 1000000007 == m % 1000000007) = true := beq_iff_eq.2 rfl
              go_wp2_with fail
              go_quiet ((go_at_call 18; exact Calls.quiet_of_same (markRune_any _ _ bm0 bm1)))
              go_wp2
              go_roundw
              case rel => exact ⟨j + 1, by omega, by go_num, by trivial, hb.trans ((below_drewN _ _).mono hb.size)⟩
              case measure => simp [intOf]; omega
            · obtain rfl : j = n := by omega
              go_wp2
              go_roundw
              case rel => exact ⟨k + 1, by omega, by go_num, by trivial, hb⟩
              case measure => simp [intOf]; omega
        · obtain rfl : k = hn.length := by omega
          obtain ⟨p1, k1, hp1, _⟩ := own_slice hr.r2
          rw [hp1] at c1
          clear hp1
          go_wp2_with fail
          go_loopw [3, 8] (fun ok i wr => ∃ k : Nat, k ≤ he.length ∧ i = .int .i64 k ∧ ok = .bool true ∧ Below w.heap.size w wr) (fun _ i _ => he.length - (intOf i).toNat)
          case atStart => exact ⟨0, Nat.zero_le _, rfl, rfl, hb⟩
          case round =>
            clear hr c1 hb
            obtain ⟨k, hk, rfl, rfl, hb⟩ := hrel
            have hr := h.below hb
            have c1 := hr.c3
            by_cases hlt : k < he.length
            · obtain ⟨G, cap, hG, e0, e1⟩ := entry_at hr.r3 k hlt
              rw [hG] at c1
              obtain ⟨q, n, cq, hq, hn9, hcq⟩ := marked_at (hr.m3 he[k] (List.getElem_mem hlt)) (fun _ => rfl)
              rw [hq] at e0
              have HQ := hide hq
              have HG := hide hG
              clear hq hG
              go_wp2_with fail
              go_loopw [3, 9] (fun ok i wr => ∃ j : Nat, j ≤ n ∧ i = .int .i64 j ∧ ok = .bool true ∧ Below w.heap.size w wr) (fun _ i _ => n - (intOf i).toNat)
              case atStart => exact ⟨0, Nat.zero_le _, rfl, rfl, hb⟩
              case round =>
                clear hr c1 e0 e1 hcq hb
                obtain ⟨j, hj, rfl, rfl, hb⟩ := hrel
                have hr := h.below hb
                have c1 := hr.c3
                rw [unhide HG] at c1
                obtain ⟨G', cap', e', e0, e1⟩ := entry_at hr.r3 k hlt
                rw [unhide HG] at e'
                injection e' with e' _ e''
                injection e' with e'
                injection e' with e'
                subst e' e''
                obtain ⟨q', n', cq', hq', _, hcq⟩ := marked_at (hr.m3 he[k] (List.getElem_mem hlt)) (fun _ => rfl)
                rw [unhide HQ] at hq'
                injection hq' with e1' e2' e3'
                subst e1' e2' e3'
                rw [unhide HQ] at e0
                by_cases hltj : j < n
                · obtain ⟨g, rfl, hc⟩ := hcq j hltj
                  have hk0 : (0 : Int) ≤ (k : Int) := Int.natCast_nonneg _
                  have hk1 : (k : Int) < (he.length : Int) := by omega
                  have hj0 : (0 : Int) ≤ (j : Int) := Int.natCast_nonneg _
                  have hj1 : (j : Int) < (n : Int) := by omega
                  obtain ⟨bm0, bm1⟩ := b3 he[k] (List.getElem_mem hlt)
                  generalize he[k].2 = m at e1 hc bm0 bm1
                  have d0 := hc 0 _ rfl
                  have d1 := hc 1 _ rfl
                  have d2 := hc 2 _ rfl
                  simp only [Nat.add_zero] at d0
                  clear hc
                  have hmm : (m == m) = true := beq_iff_eq.2 rfl
                  have hmm' : (-m == -m) = true := beq_iff_eq.2 rfl
                  have z0 := World.block_lt_of_cell? wr _ c1
                  have z1 := World.block_lt_of_cell? wr _ e0
                  have z2 := World.block_lt_of_cell? wr _ d0
                  go_wp2_with fail
                  go_region_held3 (fun w' => w'.cell? ⟨H, 3, none⟩ = some (.slice (some ⟨G, 0, none⟩) he.length cap) ∧ w'.cell? ⟨G, k * 2, none⟩ = some (.slice (some ⟨g, 0, none⟩) n cq) ∧ w'.cell? ⟨G, k * 2 + 1, none⟩ = some (.int .i64 m) ∧ w'.cell? ⟨g, j * 3, none⟩ = some (.int .i64 m) ∧ w'.cell? ⟨g, j * 3 + 1, none⟩ = some (.int .i64 (-m)) ∧ w'.cell? ⟨g, j * 3 + 2, none⟩ = some (.int .i64 m))
                    (first | (go_keep; done))
                    (first | (go_at_call 19; refine (markEdge_any m _ bm0 bm1).mono ?_; rintro e w' ⟨rfl, rfl⟩))
                  go_wp2
                  go_roundw
                  case rel => exact ⟨j + 1, by omega, by go_num, by trivial, (hb.alloc hb.size _).drew⟩
                  case measure => simp [intOf]; omega
                · obtain rfl : j = n := by omega
                  go_wp2
                  go_roundw
                  case rel => exact ⟨k + 1, by omega, by go_num, by trivial, hb⟩
                  case measure => simp [intOf]; omega
            · obtain rfl : k = he.length := by omega
              obtain ⟨p1, k1, hp1, _⟩ := own_slice hr.r3
              rw [hp1] at c1
              clear hp1
              go_wp2_with fail
              go_loopw [3, 10] (fun ok i wr => i = .int .i64 0 ∧ ok = .bool true ∧ Below w.heap.size w wr) (fun _ _ _ => 0)
              case atStart => exact ⟨rfl, rfl, hb⟩
              case round =>
                clear hr c1 hb
                obtain ⟨rfl, rfl, hb⟩ := hrel
                have c4 := (h.below hb).c4
                go_wp2_with fail
                go_loopw [3, 12] (fun ok i wr => i = .int .i64 0 ∧ ok = .bool true ∧ Below w.heap.size w wr) (fun _ _ _ => 0)
                case atStart => exact ⟨rfl, rfl, hb⟩
                case round =>
                  clear c4 hb
                  obtain ⟨rfl, rfl, hb⟩ := hrel
                  have c5 := (h.below hb).c5
                  go_wp2
                  go_ret
                  exact ⟨rfl, hb⟩
end Go.Proofs.YteflnddphpjahaaDoor
