import Derived.Test.YteflnddphpjahaaDoorClSrtDtoSrtF
import Derived.BigRegion
import Derived.BigQuiet
import Derived.Deep.RegionHeld3
/-
  slices.insertionSortCmpFunc at edges.
-/
set_option linter.unusedVariables false
set_option linter.unusedSimpArgs false
set_option maxRecDepth 100000
namespace Go.Proofs.YteflnddphpjahaaDoor
open Go.RowKit

def SrtPost (g cap B N a b : Nat) (X : List Sp.Ed) (w : World) (e : Ending) (w' : World) : Prop :=
  e = .returned (.tuple #[]) ∧ ∃ Y, w'.ownsRow B 58 3 (.slice (some ⟨g, 0, none⟩) N cap) N (edCells Y) ∧ w.grownBy w' (some g) ∧ St X Y ∧ Ord Y a b ∧ ∀ t, t < a ∨ b ≤ t → Y[t]? = X[t]?

set_option maxHeartbeats 2000000 in
theorem insertion_any (g cap B a b N : Nat) (X : List Sp.Ed) (w : World) (hX : X.length = N) (h : w.ownsRow B 58 3 (.slice (some ⟨g, 0, none⟩) N cap) N (edCells X)) (hab : a ≤ b) (hb : b ≤ N) (hl : N ≤ 5000) :
    Calls Tryd.prog 126 #[.slice (some ⟨g, 0, none⟩) N cap, .int .i64 a, .int .i64 b, .func (.func 57) #[] #[]] w (SrtPost g cap B N a b X w) := by
  have HX := hide hX
  clear hX
  go_enter Tryd.func126, Tryd.ntmps126
  go_wp2
  go_loopw [8] (fun u wr => ∃ (i : Nat) (Y : List Sp.Ed), u = .int .i64 i ∧ a < i ∧ (i ≤ b ∨ i = a + 1) ∧ wr.ownsRow B 58 3 (.slice (some ⟨g, 0, none⟩) N cap) N (edCells Y) ∧ w.grownBy wr (some g) ∧ Hid (Y.length = N) ∧ Hid (St X Y) ∧ Hid (Ord Y a i) ∧ Hid (∀ t, t < a ∨ b ≤ t → Y[t]? = X[t]?)) (fun u _ => b + 1 - (intOf u).toNat)
  case atStart => exact ⟨a + 1, X, by go_num, by omega, Or.inr rfl, h, grown_refl _ _, HX, St.refl _, fun s t x y h1 h2 h3 => by omega, fun t _ => rfl⟩
  case round =>
    obtain ⟨i, Y, rfl, hai, hib, ho, hgr, HY, HST, HOR, HOUT⟩ := hrel
    by_cases hlt : i < b
    · have hltz : (i : Int) < (b : Int) := by omega
      go_wp2
      go_loopw [9] (fun u wr2 => ∃ (j : Nat) (Z : List Sp.Ed), u = .int .i64 j ∧ a ≤ j ∧ j ≤ i ∧ wr2.ownsRow B 58 3 (.slice (some ⟨g, 0, none⟩) N cap) N (edCells Z) ∧ w.grownBy wr2 (some g) ∧ Hid (Z.length = N) ∧ Hid (St X Z) ∧ Hid (OrdBut Z a (i + 1) j) ∧ Hid (∀ t, t < a ∨ b ≤ t → Z[t]? = X[t]?)) (fun u _ => (intOf u).toNat)
      case atStart => exact ⟨i, Y, rfl, by omega, Nat.le_refl _, ho, hgr, HY, HST, ord_but (unhide HOR), HOUT⟩
      case round =>
        obtain ⟨j, Z, rfl, haj, hji, ho2, hgr2, HZ, HST2, HOR2, HOUT2⟩ := hrel
        clear ho hgr
        by_cases hja : a < j
        · obtain ⟨q, HQ⟩ : ∃ q, Hid (j = q + 1) := ⟨j - 1, by show _ = _; omega⟩
          have hqj : q < j := by have := unhide HQ; omega
          have haq : a ≤ q := by have := unhide HQ; omega
          have hjN : j < N := by omega
          have hjaz : (a : Int) < (j : Int) := by omega
          have hq1 : (j : Int) < (N : Int) := by omega
          have hq0 : (q : Int) < (N : Int) := by omega
          have p0 : (0 : Int) ≤ (j : Int) := by omega
          have p1 : (0 : Int) ≤ (q : Int) := by omega
          have hw2 : IntKind.i64.wrap ((j : Int) - 1) = (q : Int) := by have := unhide HQ; rw [IntKind.wrap_i64]; omega
          obtain ⟨x1, x0, ⟨c0, c1, c2⟩, ⟨d0, d1, d2⟩, _, HXX⟩ := own_sw (unhide HZ) ho2 j q (by omega) (by omega)
          obtain ⟨c, hc⟩ : ∃ c, cmpE x1 x0 = c := ⟨_, rfl⟩
          have HC := hide hc
          have HLT := hide (ltE_iff x1 x0)
          rw [hc] at HLT
          clear hc
          have hgz : g < wr.heap.size := World.block_lt_of_cell? _ _ c0
          by_cases hneg : c < 0
          · go_wp2_with fail
            go_region_held3 (fun w' => (w'.cell? ⟨g, j * 3, none⟩ = some (.int .i64 (x1.frm : Int)) ∧ w'.cell? ⟨g, j * 3 + 1, none⟩ = some (.int .i64 (x1.to : Int)) ∧ w'.cell? ⟨g, j * 3 + 2, none⟩ = some (.int .i64 x1.n)) ∧ (w'.cell? ⟨g, q * 3, none⟩ = some (.int .i64 (x0.frm : Int)) ∧ w'.cell? ⟨g, q * 3 + 1, none⟩ = some (.int .i64 (x0.to : Int)) ∧ w'.cell? ⟨g, q * 3 + 2, none⟩ = some (.int .i64 x0.n)))
              (first | (go_keep; done) | (exact ⟨⟨(hb2.cell (p := ⟨g, _, none⟩) hgz).trans c0, (hb2.cell (p := ⟨g, _, none⟩) hgz).trans c1, (hb2.cell (p := ⟨g, _, none⟩) hgz).trans c2⟩, ⟨(hb2.cell (p := ⟨g, _, none⟩) hgz).trans d0, (hb2.cell (p := ⟨g, _, none⟩) hgz).trans d1, (hb2.cell (p := ⟨g, _, none⟩) hgz).trans d2⟩⟩))
              (first | (go_at_call 57; refine (edgeCmp_any x1 x0 _).mono ?_; rintro e w2 ⟨rfl, hb2⟩; rw [unhide HC]))
            have hb3 : Below wr.heap.size wr w2 := (Below.refl _ _).drew.trans hb2
            have ho3 := own_below ho2 hb3
            have f0 := own_frozen ho3 (j * 3)
            have f1 := own_frozen ho3 (j * 3 + 1)
            have f2 := own_frozen ho3 (j * 3 + 2)
            have f3 := own_frozen ho3 (q * 3)
            have f4 := own_frozen ho3 (q * 3 + 1)
            have f5 := own_frozen ho3 (q * 3 + 2)
            obtain ⟨z1, z0, ⟨r0, r1, r2⟩, ⟨s0, s1, s2⟩, HO, HZZ⟩ := own_sw (unhide HZ) ho3 j q (by omega) (by omega)
            have HG3 := hide (grown_trans hgr2 (grown_below hb3))
            obtain rfl : z1 = x1 := by have h1 := (unhide HXX).1; rw [(unhide HZZ).1] at h1; injection h1
            obtain rfl : z0 = x0 := by have h1 := (unhide HXX).2; rw [(unhide HZZ).2] at h1; injection h1
            have HL : Hid (ltE z1 z0) := (unhide HLT).1 hneg
            clear hb2 hb3 ho2 ho3 c0 c1 c2 d0 d1 d2 hgr2
            go_wp2_with fail
            go_region
            go_wp2
            go_roundw
            case rel =>
              have hjq := unhide HQ
              subst hjq
              have hq : q + 1 < Z.length := by rw [unhide HZ]; omega
              have e1 : Z[q + 1] = z1 := by have := (unhide HZZ).1; rw [List.getElem?_eq_getElem hq] at this; injection this
              have e2 : Z[q] = z0 := by have := (unhide HZZ).2; rw [List.getElem?_eq_getElem (by omega)] at this; injection this
              refine ⟨q, sw Z (q + 1) q, by go_num, by omega, by omega, (unhide HO).1, grown_trans (unhide HG3) (unhide HO).2, by show _ = _; rw [sw_len]; exact unhide HZ, (unhide HST2).trans (St_sw Z q hq (by rw [e1, e2]; exact unhide HL)), but_step (unhide HOR2) (by omega) (by omega) hq (by rw [e1, e2]; exact unhide HL), ?_⟩
              intro t ht
              rw [sw_get _ _ _ hq (by omega), if_neg (by omega), if_neg (by omega)]
              exact (unhide HOUT2) t ht
            case measure => have := unhide HQ; simp [intOf]; omega
          · go_wp2_with fail
            go_region_held3 (fun w' => (w'.cell? ⟨g, j * 3, none⟩ = some (.int .i64 (x1.frm : Int)) ∧ w'.cell? ⟨g, j * 3 + 1, none⟩ = some (.int .i64 (x1.to : Int)) ∧ w'.cell? ⟨g, j * 3 + 2, none⟩ = some (.int .i64 x1.n)) ∧ (w'.cell? ⟨g, q * 3, none⟩ = some (.int .i64 (x0.frm : Int)) ∧ w'.cell? ⟨g, q * 3 + 1, none⟩ = some (.int .i64 (x0.to : Int)) ∧ w'.cell? ⟨g, q * 3 + 2, none⟩ = some (.int .i64 x0.n)))
              (first | (go_keep; done) | (exact ⟨⟨(hb2.cell (p := ⟨g, _, none⟩) hgz).trans c0, (hb2.cell (p := ⟨g, _, none⟩) hgz).trans c1, (hb2.cell (p := ⟨g, _, none⟩) hgz).trans c2⟩, ⟨(hb2.cell (p := ⟨g, _, none⟩) hgz).trans d0, (hb2.cell (p := ⟨g, _, none⟩) hgz).trans d1, (hb2.cell (p := ⟨g, _, none⟩) hgz).trans d2⟩⟩))
              (first | (go_at_call 57; refine (edgeCmp_any x1 x0 _).mono ?_; rintro e w2 ⟨rfl, hb2⟩; rw [unhide HC]))
            have hb3 : Below wr.heap.size wr w2 := (Below.refl _ _).drew.trans hb2
            go_wp2
            go_roundw
            case rel => exact ⟨i + 1, Z, by go_num, by omega, by omega, own_below ho2 hb3, grown_trans hgr2 (grown_below hb3), HZ, HST2, but_ord (unhide HOR2) (Or.inr ⟨q, (unhide HQ).symm, x0, x1, (unhide HXX).2, (unhide HXX).1, fun hq => (Int.not_lt.2 hneg) ((unhide HLT).2 hq)⟩), HOUT2⟩
            case measure => simp [intOf]; omega
        · have hjaz : ¬ (a : Int) < (j : Int) := by omega
          have hjd : decide ((a : Int) < (j : Int)) = false := decide_eq_false hjaz
          go_wp2_with fail
          go_quiet (fail)
          go_wp2
          go_roundw
          case rel => exact ⟨i + 1, Z, by go_num, by omega, by omega, own_below ho2 (below_drewN _ _), grown_trans hgr2 (grown_below (below_drewN _ _)), HZ, HST2, but_ord (unhide HOR2) (Or.inl (by omega)), HOUT2⟩
          case measure => simp [intOf]; omega
    · go_wp2
      go_end0
      exact ⟨rfl, Y, ho, hgr, unhide HST, fun s t x y h1 h2 h3 => (unhide HOR) s t x y h1 h2 (by omega), unhide HOUT⟩
end Go.Proofs.YteflnddphpjahaaDoor
