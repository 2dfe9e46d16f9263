import Derived.Test.YteflnddphpjahaaDoorClSrtI
import Derived.BigRegion
import Derived.BigQuiet
import Derived.Deep.RegionHeld3
/-
  slices.symMergeCmpFunc at edges, where the second stretch is one edge.
-/
set_option linter.unusedVariables false
set_option linter.unusedSimpArgs false
set_option maxRecDepth 100000
namespace Go.Proofs.YteflnddphpjahaaDoor
open Go.RowKit

set_option maxHeartbeats 2000000 in
theorem symLast_any (g cap B a m b N : Nat) (X : List Sp.Ed) (w : World) (hX : X.length = N) (h : w.ownsRow B 58 3 (.slice (some ⟨g, 0, none⟩) N cap) N (edCells X)) (ham : a + 1 < m) (hm : b = m + 1) (hb : b ≤ N) (hl : N ≤ 5000) (hO : Hid (Ord X a m)) :
    Calls Tryd.prog 127 #[.slice (some ⟨g, 0, none⟩) N cap, .int .i64 a, .int .i64 m, .int .i64 b, .func (.func 57) #[] #[]] w (SymPost g cap B N a b X w) := by
  have HX := hide hX
  have HM := hide hm
  have hw0 : IntKind.i64.wrap ((m : Int) - (a : Int)) = (m : Int) - (a : Int) := by rw [IntKind.wrap_i64]; omega
  have hw00 : ((m : Int) - (a : Int) == 1) = false := by rw [beq_eq_false_iff_ne]; omega
  have hw1 : IntKind.i64.wrap ((b : Int) - (m : Int)) = 1 := by rw [IntKind.wrap_i64]; omega
  have hmb : m < b := by omega
  have hmN : (m : Int) < (N : Int) := by omega
  have hm0 : (0 : Int) ≤ (m : Int) := by omega
  clear hX hm
  go_enter Tryd.func127, Tryd.ntmps127
  go_wp2
  go_loopw [14, 15] (fun u v wr => ∃ (i j : Nat), u = .int .i64 i ∧ v = .int .i64 j ∧ a ≤ i ∧ i ≤ j ∧ j ≤ m ∧ wr.ownsRow B 58 3 (.slice (some ⟨g, 0, none⟩) N cap) N (edCells X) ∧ w.grownBy wr (some g) ∧ Hid (∀ t x y, a ≤ t → t < i → X[m]? = some x → X[t]? = some y → ¬ ltE x y) ∧ Hid (∀ t x y, j ≤ t → t < m → X[m]? = some x → X[t]? = some y → ltE x y)) (fun u v _ => (intOf v - intOf u).toNat)
  case atStart => exact ⟨a, m, rfl, rfl, Nat.le_refl _, by omega, Nat.le_refl _, h, grown_refl _ _, fun t x y h1 h2 => by omega, fun t x y h1 h2 => by omega⟩
  case round =>
    obtain ⟨i, j, rfl, rfl, hmi, hij, hjb, ho, hgr, HLO, HHI⟩ := hrel
    by_cases hlt : i < j
    · have hltz : (i : Int) < (j : Int) := by omega
      have hq1 : i ≤ (i + j) / 2 := by omega
      have hq2 : (i + j) / 2 < j := by omega
      have hq3 : (i + j) / 2 < N := by omega
      have hq4 : (((i + j) / 2 : Nat) : Int) < (N : Int) := by omega
      have hq5 : ((i : Int) + (j : Int)) / 2 < (N : Int) := by omega
      have hq6 : 0 ≤ ((i : Int) + (j : Int)) / 2 := by omega
      have hq7 : (((i : Int) + (j : Int)) / 2).toNat = (i + j) / 2 := by omega
      obtain ⟨x1, x0, ⟨c0, c1, c2⟩, ⟨d0, d1, d2⟩, _, HXX⟩ := own_sw (unhide HX) ho m ((i + j) / 2) (by omega) (by omega)
      obtain ⟨c, hc⟩ : ∃ c, cmpE x1 x0 = c := ⟨_, rfl⟩
      have HC := hide hc
      have HLT := hide (ltE_iff x1 x0)
      rw [hc] at HLT
      clear hc
      have hgz : g < wr.heap.size := World.block_lt_of_cell? _ _ c0
      by_cases hneg : c < 0
      · go_wp2_with fail
        go_region_held3 (fun w' => (w'.cell? ⟨g, m * 3, none⟩ = some (.int .i64 (x1.frm : Int)) ∧ w'.cell? ⟨g, m * 3 + 1, none⟩ = some (.int .i64 (x1.to : Int)) ∧ w'.cell? ⟨g, m * 3 + 2, none⟩ = some (.int .i64 x1.n)) ∧ (w'.cell? ⟨g, (i + j) / 2 * 3, none⟩ = some (.int .i64 (x0.frm : Int)) ∧ w'.cell? ⟨g, (i + j) / 2 * 3 + 1, none⟩ = some (.int .i64 (x0.to : Int)) ∧ w'.cell? ⟨g, (i + j) / 2 * 3 + 2, none⟩ = some (.int .i64 x0.n)))
          (first | (go_keep; done) | (exact ⟨⟨(hb2.cell (p := ⟨g, _, none⟩) hgz).trans c0, (hb2.cell (p := ⟨g, _, none⟩) hgz).trans c1, (hb2.cell (p := ⟨g, _, none⟩) hgz).trans c2⟩, ⟨(hb2.cell (p := ⟨g, _, none⟩) hgz).trans d0, (hb2.cell (p := ⟨g, _, none⟩) hgz).trans d1, (hb2.cell (p := ⟨g, _, none⟩) hgz).trans d2⟩⟩))
          (first | (go_at_call 57; refine (edgeCmp_any x1 x0 _).mono ?_; rintro e w2 ⟨rfl, hb2⟩; rw [unhide HC]))
        have hb3 : Below wr.heap.size wr w2 := (Below.refl _ _).drew.trans hb2
        go_wp2
        go_roundw
        case rel =>
          refine ⟨i, (i + j) / 2, rfl, by go_num, hmi, by omega, by omega, own_below ho hb3, grown_trans hgr (grown_below hb3), HLO, ?_⟩
          intro t x y h1 h2 hx hy
          have hlt' := (unhide HLT).1 hneg
          rw [(unhide HXX).1] at hx
          injection hx with hx
          subst hx
          exact ltE_of_lt_lexle hlt' (ord_le (unhide hO) (by omega) h1 h2 (unhide HXX).2 hy)
        case measure => simp [intOf]; omega
      · go_wp2_with fail
        go_region_held3 (fun w' => (w'.cell? ⟨g, m * 3, none⟩ = some (.int .i64 (x1.frm : Int)) ∧ w'.cell? ⟨g, m * 3 + 1, none⟩ = some (.int .i64 (x1.to : Int)) ∧ w'.cell? ⟨g, m * 3 + 2, none⟩ = some (.int .i64 x1.n)) ∧ (w'.cell? ⟨g, (i + j) / 2 * 3, none⟩ = some (.int .i64 (x0.frm : Int)) ∧ w'.cell? ⟨g, (i + j) / 2 * 3 + 1, none⟩ = some (.int .i64 (x0.to : Int)) ∧ w'.cell? ⟨g, (i + j) / 2 * 3 + 2, none⟩ = some (.int .i64 x0.n)))
          (first | (go_keep; done) | (exact ⟨⟨(hb2.cell (p := ⟨g, _, none⟩) hgz).trans c0, (hb2.cell (p := ⟨g, _, none⟩) hgz).trans c1, (hb2.cell (p := ⟨g, _, none⟩) hgz).trans c2⟩, ⟨(hb2.cell (p := ⟨g, _, none⟩) hgz).trans d0, (hb2.cell (p := ⟨g, _, none⟩) hgz).trans d1, (hb2.cell (p := ⟨g, _, none⟩) hgz).trans d2⟩⟩))
          (first | (go_at_call 57; refine (edgeCmp_any x1 x0 _).mono ?_; rintro e w2 ⟨rfl, hb2⟩; rw [unhide HC]))
        have hb3 : Below wr.heap.size wr w2 := (Below.refl _ _).drew.trans hb2
        go_wp2
        rotate_left
        · rename_i hx; exfalso; simp at hx; omega
        go_roundw
        case rel =>
          refine ⟨(i + j) / 2 + 1, j, by go_num, rfl, by omega, by omega, hjb, own_below ho hb3, grown_trans hgr (grown_below hb3), ?_, HHI⟩
          intro t x y h1 h2 hx hy hn
          rw [(unhide HXX).1] at hx
          injection hx with hx
          subst hx
          exact (Int.not_lt.2 hneg) ((unhide HLT).2 (ltE_of_lt_lexle hn (ord_le (unhide hO) h1 (by omega) (by omega) hy (unhide HXX).2)))
        case measure => simp [intOf]; omega
    · obtain rfl : i = j := by omega
      clear hij
      go_wp2
      go_loopw [17] (fun u wr2 => ∃ (k : Nat) (Y : List Sp.Ed), u = .int .i64 k ∧ i ≤ k ∧ k ≤ m ∧ wr2.ownsRow B 58 3 (.slice (some ⟨g, 0, none⟩) N cap) N (edCells Y) ∧ w.grownBy wr2 (some g) ∧ Hid (Y.length = N) ∧ Hid (Up X Y k m)) (fun u _ => (intOf u).toNat)
      case atStart => exact ⟨m, X, rfl, by omega, Nat.le_refl _, ho, hgr, HX, Up.refl _ _⟩
      case round =>
        obtain ⟨k, Y, rfl, hak, hki, ho2, hgr2, HY, HD⟩ := hrel
        clear ho hgr h
        by_cases hlt2 : i < k
        · obtain ⟨q, HQ⟩ : ∃ q, Hid (k = q + 1) := ⟨k - 1, by show _ = _; omega⟩
          have hqk : q < k := by have := unhide HQ; omega
          have hk0 : (i : Int) < (k : Int) := by omega
          have hk1 : (k : Int) < (N : Int) := by omega
          have hk2 : (q : Int) < (N : Int) := by omega
          have hk3 : (0 : Int) ≤ (q : Int) := by omega
          have hw2 : IntKind.i64.wrap ((k : Int) - 1) = (q : Int) := by have := unhide HQ; rw [IntKind.wrap_i64]; omega
          have f0 := own_frozen ho2 (k * 3)
          have f1 := own_frozen ho2 (k * 3 + 1)
          have f2 := own_frozen ho2 (k * 3 + 2)
          have f3 := own_frozen ho2 (q * 3)
          have f4 := own_frozen ho2 (q * 3 + 1)
          have f5 := own_frozen ho2 (q * 3 + 2)
          obtain ⟨z0, z1, ⟨r0, r1, r2⟩, ⟨s0, s1, s2⟩, HOO, HZZ⟩ := own_sw (unhide HY) ho2 k q (by omega) (by omega)
          have HGR := hide hgr2
          clear ho2 hgr2
          go_wp2_with fail
          go_region
          go_wp2
          go_roundw
          case rel =>
            have hkq := unhide HQ
            subst hkq
            refine ⟨q, sw Y (q + 1) q, by go_num, by omega, by omega, (unhide HOO).1, grown_trans (unhide HGR) (unhide HOO).2, by show _ = _; rw [sw_len]; exact unhide HY, (unhide HD).step (by omega) (by rw [unhide HX]; omega) (fun x y hx hy => (unhide HHI) q x y (by omega) (by omega) hx hy)⟩
          case measure => have := unhide HQ; simp [intOf]; omega
        · have hk0 : ¬ (i : Int) < (k : Int) := by omega
          obtain rfl : i = k := by omega
          go_wp2
          go_end0
          exact ⟨rfl, Y, ho2, hgr2, (unhide HD).close (unhide HM) hmi hjb (by rw [unhide HX]; exact hb) (unhide hO) (unhide HLO) (unhide HHI)⟩
end Go.Proofs.YteflnddphpjahaaDoor
