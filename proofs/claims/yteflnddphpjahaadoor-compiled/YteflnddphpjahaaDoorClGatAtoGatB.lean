import Derived.Test.YteflnddphpjahaaDoorClTabDtoTabE
import Derived.Test.YteflnddphpjahaaDoorClPlJtoPlO
import Derived.BigQuiet
import Derived.Deep.DeepMust
/-
  The program's gatherVertices.
-/
set_option linter.unusedVariables false
set_option linter.unusedSimpArgs false
set_option maxRecDepth 100000
namespace Go.Proofs.YteflnddphpjahaaDoor
open Go.RowKit

/-- The program's lines in memory. -/
def PLsAt (w : World) (p : Option Addr) (P : List (Option Sp.Ln)) : Prop := ∀ j (h : j < P.length), ∃ g, p = some ⟨g, 0, none⟩ ∧ g < w.heap.size ∧ w.cell? ⟨g, j * 4, none⟩ = some (.int .i64 (Sp.pk P[j])) ∧ w.cell? ⟨g, j * 4 + 1, none⟩ = some (.int .i32 (Sp.pa P[j])) ∧ w.cell? ⟨g, j * 4 + 2, none⟩ = some (.int .i32 (Sp.pb P[j])) ∧ w.cell? ⟨g, j * 4 + 3, none⟩ = some (.int .i64 (Sp.pn P[j]))
theorem PLsAt.below {w w' : World} {p : Option Addr} {P : List (Option Sp.Ln)} (h : PLsAt w p P) (hb : Below w.heap.size w w') : PLsAt w' p P := fun j hj => by
  obtain ⟨g, e, hg, c0, c1, c2, c3⟩ := h j hj
  have := hb.size
  exact ⟨g, e, by omega, (hb.cell (p := ⟨g, _, none⟩) hg).trans c0, (hb.cell (p := ⟨g, _, none⟩) hg).trans c1, (hb.cell (p := ⟨g, _, none⟩) hg).trans c2, (hb.cell (p := ⟨g, _, none⟩) hg).trans c3⟩
theorem pls_get (P : List (Option Sp.Ln)) : ∀ (k : Nat) (h : k < P.length), (plsCells P)[k * 4]? = some (.int .i64 (Sp.pk P[k])) ∧ (plsCells P)[k * 4 + 1]? = some (.int .i32 (Sp.pa P[k])) ∧ (plsCells P)[k * 4 + 2]? = some (.int .i32 (Sp.pb P[k])) ∧ (plsCells P)[k * 4 + 3]? = some (.int .i64 (Sp.pn P[k])) := by
  induction P with
  | nil => intro k h; simp at h
  | cons l L ih =>
    intro k h
    cases k with
    | zero => exact ⟨rfl, rfl, rfl, rfl⟩
    | succ k =>
      have := ih k (by simpa using h)
      have e : plsCells (l :: L) = plCells l ++ plsCells L := by simp [plsCells]
      rw [e]
      have hl : (plCells l).length = 4 := rfl
      rw [show (k + 1) * 4 = 4 + k * 4 by omega, show 4 + k * 4 + 1 = 4 + (k * 4 + 1) by omega, show 4 + k * 4 + 2 = 4 + (k * 4 + 2) by omega, show 4 + k * 4 + 3 = 4 + (k * 4 + 3) by omega]
      rw [List.getElem?_append_right (by omega), List.getElem?_append_right (by omega), List.getElem?_append_right (by omega), List.getElem?_append_right (by omega), hl]
      simpa using this
theorem pls_of_own {w : World} {B : Nat} {v : Value} {P : List (Option Sp.Ln)} (h : w.ownsRow B 130 4 v P.length (plsCells P)) : ∃ p cap, v = .slice p P.length cap ∧ PLsAt w p P := by
  obtain ⟨p, cap, hv, hc⟩ := own_slice h
  refine ⟨p, cap, hv, fun k hk => ?_⟩
  obtain ⟨e0, e1, e2, e3⟩ := pls_get P k hk
  obtain ⟨g, hp, _, hg, c0⟩ := hc (k * 4) (by omega)
  obtain ⟨g1, hp1, _, _, c1⟩ := hc (k * 4 + 1) (by omega)
  obtain ⟨g2, hp2, _, _, c2⟩ := hc (k * 4 + 2) (by omega)
  obtain ⟨g3, hp3, _, _, c3⟩ := hc (k * 4 + 3) (by omega)
  have q1 : g1 = g := by rw [hp] at hp1; injection hp1 with q; injection q with q; exact q.symm
  have q2 : g2 = g := by rw [hp] at hp2; injection hp2 with q; injection q with q; exact q.symm
  have q3 : g3 = g := by rw [hp] at hp3; injection hp3 with q; injection q with q; exact q.symm
  subst q1 q2 q3
  exact ⟨_, hp, hg, c0.trans e0, c1.trans e1, c2.trans e2, c3.trans e3⟩

def VertPost (P : List (Option Sp.Ln)) (w : World) (e : Ending) (w' : World) : Prop :=
  Below w.heap.size w w' ∧ match Sp.gv P 0 [] with
    | .error k => e = .returned (.tuple #[.pointer none, .int .i64 (k : Nat), .bool false])
    | .ok T => e = .returned (.tuple #[.pointer (some ⟨w.heap.size, 0, none⟩), .int .i64 0, .bool true]) ∧ TabAt w' (w.heap.size + 1) w.heap.size T ∧ Sp.tsorted T ∧ T.length ≤ P.length

set_option maxHeartbeats 1000000 in
theorem gatherVertices_any (p : Option Addr) (cap : Nat) (P : List (Option Sp.Ln)) (w : World) (h : PLsAt w p P) (hl : P.length ≤ 5000) : Calls Tryd.prog 39 #[.slice p P.length cap] w (VertPost P w) := by
  go_enter Tryd.func39, Tryd.ntmps39
  go_wp2
  go_loopw [11] (fun i wr => ∃ (k : Nat) (T : Sp.Tb), k ≤ P.length ∧ T.length ≤ k ∧ i = .int .i64 k ∧ TabAt wr (w.heap.size + 1) w.heap.size T ∧ Hid (Sp.tsorted T) ∧ Below w.heap.size w wr ∧ w.heap.size + 1 ≤ wr.heap.size ∧ Hid (Sp.gv (P.drop k) k T = Sp.gv P 0 [])) (fun i _ => P.length - (intOf i).toNat)
  case atStart => exact ⟨0, [], Nat.zero_le _, Nat.zero_le _, rfl, ⟨.slice none 0 0, heap_alloc_new w _, World.ownsRow_nil _ _ _ _⟩, List.Pairwise.nil, (Below.refl _ _).alloc (Nat.le_refl _) _, by simp, rfl⟩
  case round =>
    obtain ⟨k, T, hk, hTk, rfl, hTab, HS, hbw, hz, HR⟩ := hrel
    by_cases hlt : k < P.length
    · obtain ⟨g, rfl, hgl, c0, c1, c2, c3⟩ := (h.below hbw) k hlt
      have hTabA := hTab.below ((Below.refl wr.heap.size wr).alloc (Nat.le_refl _) (.cells #[.int .i64 (Sp.pk P[k]), .int .i32 (Sp.pa P[k]), .int .i32 (Sp.pb P[k]), .int .i64 (Sp.pn P[k])] 130))
      have hbA := hbw.alloc hbw.size (.cells #[.int .i64 (Sp.pk P[k]), .int .i32 (Sp.pa P[k]), .int .i32 (Sp.pb P[k]), .int .i64 (Sp.pn P[k])] 130)
      have HTA := hide hTabA
      have HBA := hide hbA
      have HG1 := hide (fun he => Sp.gv_skip hlt T (he := he))
      have HG2 := hide (fun he ht => Sp.gv_twice hlt T (he := he) (ht := ht))
      have HG3 := hide (fun he ht => Sp.gv_add hlt T (he := he) (ht := ht))
      clear hTabA hbA hTab
      generalize Sp.pk P[k] = K at *
      generalize Sp.pa P[k] = A at *
      generalize Sp.pb P[k] = Bb at *
      generalize Sp.pn P[k] = N at *
      have hz2 : w.heap.size < wr.heap.size := by omega
      by_cases hK : K = 1
      · subst hK
        cases hh : Sp.thas T A with
        | true =>
          have HH := hide hh
          clear hh
          go_wp2_with (go_at_call 53; go_must (refine (add_any w.heap.size (w.heap.size + 1) T A N _ (unhide HTA) (unhide HS) (by omega) (by simp; omega) (by omega)).mono ?_; rintro e w2 ⟨hb2, rfl, ht2⟩; rw [unhide HH]))
          exact bodyPost_ret (v := .tuple #[.pointer none, .int .i64 k, .bool false]) (by simp [results, Tryd.results39, go_sem]) rfl ⟨(unhide HBA).trans hb2, by rw [← unhide HR, (unhide HG2) (by trivial) (unhide HH)]⟩
        | false =>
          have HH := hide hh
          clear hh
          go_wp2_with (go_at_call 53; go_must (refine (add_any w.heap.size (w.heap.size + 1) T A N _ (unhide HTA) (unhide HS) (by omega) (by simp; omega) (by omega)).mono ?_; rintro e w2 ⟨hb2, rfl, ht2⟩; rw [unhide HH]))
          have hz3 := hb2.size
          simp at hz3
          rw [unhide HH] at ht2
          go_roundw
          case rel =>
            exact ⟨k + 1, Sp.tins T A N, by omega, by rw [Sp.tins_len]; omega, by go_num, ht2, Sp.tins_sorted (unhide HS) (unhide HH), (unhide HBA).trans hb2, by omega, by show _ = _; rw [← unhide HR]; exact ((unhide HG3) (by trivial) (unhide HH)).symm⟩
          case measure => simp [intOf]; omega
      · have hK1 : (K == 1) = false := beq_eq_false_iff_ne.2 hK
        have HK := hide hK
        clear hK
        go_wp2
        go_roundw
        case rel =>
          exact ⟨k + 1, T, by omega, by omega, by go_num, unhide HTA, HS, unhide HBA, by simp; omega, by show _ = _; rw [← unhide HR]; exact ((unhide HG1) (unhide HK)).symm⟩
        case measure => simp [intOf]; omega
    · go_wp2
      refine bodyPost_ret (v := .tuple #[.pointer (some ⟨w.heap.size, 0, none⟩), .int .i64 0, .bool true]) (by simp [results, Tryd.results39, go_sem]) rfl ⟨hbw, ?_⟩
      rw [← unhide HR, Sp.gv_end (by omega) T]
      exact ⟨rfl, hTab, unhide HS, by omega⟩
end Go.Proofs.YteflnddphpjahaaDoor
/-
  The program's gatherEdges.
-/
set_option linter.unusedVariables false
set_option linter.unusedSimpArgs false
set_option maxRecDepth 100000
namespace Go.Proofs.YteflnddphpjahaaDoor
open Go.RowKit

def EdgPost (P : List (Option Sp.Ln)) (T : Sp.Tb) (w : World) (e : Ending) (w' : World) : Prop :=
  Below w.heap.size w w' ∧ match Sp.ge T P 0 [] with
    | .error k => e = .returned (.tuple #[.slice none 0 0, .int .i64 (k : Nat), .bool false])
    | .ok E => ∃ v, e = .returned (.tuple #[v, .int .i64 0, .bool true]) ∧ w'.ownsRow w.heap.size 58 3 v E.length (edCells E) ∧ E.length ≤ P.length

set_option maxHeartbeats 1000000 in
theorem gatherEdges_any (p : Option Addr) (cap t B : Nat) (P : List (Option Sp.Ln)) (T : Sp.Tb) (w : World) (h : PLsAt w p P) (hl : P.length ≤ 5000) (hT : TabAt w B t T) (hS : Sp.tsorted T) (hTl : T.length ≤ 100000) :
    Calls Tryd.prog 40 #[.slice p P.length cap, .pointer (some ⟨t, 0, none⟩)] w (EdgPost P T w) := by
  obtain ⟨i0, hi, hz0, hz1, hz2⟩ := info_parts Tryd.info_edge
  have HT := hide hT
  have HS := hide hS
  clear hT hS
  go_enter Tryd.func40, Tryd.ntmps40
  go_wp2
  go_loopw [7, 16] (fun v i wr => ∃ (k : Nat) (E : List Sp.Ed), k ≤ P.length ∧ E.length ≤ k ∧ i = .int .i64 k ∧ wr.ownsRow w.heap.size 58 3 v E.length (edCells E) ∧ Below w.heap.size w wr ∧ Hid (Sp.ge T (P.drop k) k E = Sp.ge T P 0 [])) (fun _ i _ => P.length - (intOf i).toNat)
  case atStart => exact ⟨0, [], Nat.zero_le _, Nat.zero_le _, rfl, World.ownsRow_nil _ _ _ _, Below.refl _ _, rfl⟩
  case round =>
    obtain ⟨k, E, hk, hEk, rfl, ho, hbw, HR⟩ := hrel
    by_cases hlt : k < P.length
    · obtain ⟨g, rfl, hgl, c0, c1, c2, c3⟩ := (h.below hbw) k hlt
      have hbA := hbw.alloc hbw.size (.cells #[.int .i64 (Sp.pk P[k]), .int .i32 (Sp.pa P[k]), .int .i32 (Sp.pb P[k]), .int .i64 (Sp.pn P[k])] 130)
      have hoA := ho.alloc (.cells #[.int .i64 (Sp.pk P[k]), .int .i32 (Sp.pa P[k]), .int .i32 (Sp.pb P[k]), .int .i64 (Sp.pn P[k])] 130)
      have HBA := hide hbA
      have HOA := hide hoA
      have HG1 := hide (fun he => Sp.ge_skip (T := T) hlt E (he := he))
      have HG2 := hide (fun he ht => Sp.ge_loose (T := T) hlt E (he := he) (ht := ht))
      have HG3 := hide (fun he ha hb => Sp.ge_add (T := T) hlt E (he := he) (ha := ha) (hb := hb))
      clear hbA hoA ho
      generalize Sp.pk P[k] = K at *
      generalize Sp.pa P[k] = A at *
      generalize Sp.pb P[k] = Bb at *
      generalize Sp.pn P[k] = N at *
      by_cases hK : K = 2
      · subst hK
        have hk2 : ((2 : Int) != 2) = false := by decide
        go_wp2_with fail
        refine (tplace_any t B T A _ ((unhide HT).below (unhide HBA)) (unhide HS) hTl).mono ?_
        rintro e w1 ⟨rfl, hb1⟩
        have y0 := hb1.cell (p := ⟨wr.heap.size, 0, none⟩) (by simp)
        have y1 := hb1.cell (p := ⟨wr.heap.size, 1, none⟩) (by simp)
        have y2 := hb1.cell (p := ⟨wr.heap.size, 2, none⟩) (by simp)
        have y3 := hb1.cell (p := ⟨wr.heap.size, 3, none⟩) (by simp)
        simp at y0 y1 y2 y3
        have hbB := (unhide HBA).trans (hb1.mono (unhide HBA).size)
        have HBB := hide hbB
        have HOB := hide (own_below (unhide HOA) hb1)
        have hwz : wr.heap.size < w1.heap.size := by have := hb1.size; simp at this; omega
        clear hbB hb1
        generalize hta : Sp.thas T A = ta
        have HA := hide hta
        clear hta
        go_wp2_with fail
        refine (tplace_any t B T Bb _ ((unhide HT).below (unhide HBB)) (unhide HS) hTl).mono ?_
        rintro e w2 ⟨rfl, hb2⟩
        have u0 := (hb2.cell (p := ⟨wr.heap.size, 0, none⟩) hwz).trans y0
        have u1 := (hb2.cell (p := ⟨wr.heap.size, 1, none⟩) hwz).trans y1
        have u2 := (hb2.cell (p := ⟨wr.heap.size, 2, none⟩) hwz).trans y2
        have u3 := (hb2.cell (p := ⟨wr.heap.size, 3, none⟩) hwz).trans y3
        have hbC := (unhide HBB).trans (hb2.mono (unhide HBB).size)
        have hoC := own_below (unhide HOB) hb2
        have hzC := hbC.size
        clear hb2 y0 y1 y2 y3
        generalize htb : Sp.thas T Bb = tb
        have HB2 := hide htb
        clear htb
        cases ta with
        | false =>
          cases tb with
          | _ =>
            go_wp2
            exact bodyPost_ret (v := .tuple #[.slice none 0 0, .int .i64 k, .bool false]) (by simp [results, Tryd.results40, go_sem]) rfl ⟨hbC, by rw [← unhide HR, (unhide HG2) (by trivial) (fun hq => by rw [unhide HA] at hq; cases hq.1)]⟩
        | true =>
          cases tb with
          | false =>
            go_wp2
            exact bodyPost_ret (v := .tuple #[.slice none 0 0, .int .i64 k, .bool false]) (by simp [results, Tryd.results40, go_sem]) rfl ⟨hbC, by rw [← unhide HR, (unhide HG2) (by trivial) (fun hq => by rw [unhide HB2] at hq; cases hq.2)]⟩
          | true =>
            go_wp2_with (first
              | (at_builtin; go_must (refine wpList_append_own _ rfl (.tmp 45) (.tmp 51) 38 rfl w.heap.size 58 i0 _ 3 24 Tryd.underlying38 hi hz0 hz1 hz2 rfl (by decide) _ _ _ rfl (hoC.alloc _) ⟨w2.heap.size, 0, none⟩ 1 1 [.int .i64 (Sp.tlow T A : Nat), .int .i64 (Sp.tlow T Bb : Nat), .int .i64 N] rfl rfl ?c1 ?c2 ?c3 ?c4 ?c5 ?_))
              | go_in)
            case c1 =>
              intro j u hj
              match j, hj with
              | 0, hj => simp at hj; subst hj; simp [Addr.add]
              | 1, hj => simp at hj; subst hj; simp [Addr.add]
              | 2, hj => simp at hj; subst hj; simp [Addr.add]
            case c2 => intro u hu; simp at hu; rcases hu with rfl | rfl | rfl <;> rfl
            case c3 => unfold maxLen; omega
            case c4 => omega
            case c5 => simp; omega
            intro v3 w3 ho3 hg3 _
            have hbw3 := rel_app (ys := []) (v' := v3) (by simp; omega) (hoC.alloc _) (hbC.alloc hzC _) hg3
            clear hg3 hoC hbC
            go_wp2
            go_roundw
            case rel =>
              exact ⟨k + 1, E ++ [⟨Sp.tlow T A, Sp.tlow T Bb, N⟩], by omega, by simp; omega, by go_num, by simpa [edCells, List.flatMap_append] using ho3, hbw3, by
                show _ = _; rw [← unhide HR]; exact ((unhide HG3) (by trivial) (unhide HA) (unhide HB2)).symm⟩
            case measure => simp [intOf]; omega
      · have hK1 : (K != 2) = true := by rw [bne_iff_ne]; exact hK
        have HK := hide hK
        clear hK
        go_wp2
        go_roundw
        case rel =>
          exact ⟨k + 1, E, by omega, by omega, by go_num, unhide HOA, unhide HBA, by show _ = _; rw [← unhide HR]; exact ((unhide HG1) (unhide HK)).symm⟩
        case measure => simp [intOf]; omega
    · go_wp2
      refine bodyPost_ret (v := .tuple #[u7, .int .i64 0, .bool true]) (by simp [results, Tryd.results40, go_sem]) rfl ⟨hbw, ?_⟩
      rw [← unhide HR, Sp.ge_end (by omega) E]
      exact ⟨_, rfl, ho, by omega⟩
end Go.Proofs.YteflnddphpjahaaDoor
