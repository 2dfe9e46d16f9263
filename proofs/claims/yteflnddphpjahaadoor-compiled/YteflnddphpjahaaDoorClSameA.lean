import Derived.Test.YteflnddphpjahaaDoorClRefI
import Derived.Outline
import Derived.Deep.DeepMust
import Derived.Deep.QuietTactic
import Derived.BigQuiet
/-
  The walks of sameValues and sameGraph, at two graphs that hold the same.
-/
set_option linter.unusedVariables false
set_option linter.unusedSimpArgs false
set_option maxRecDepth 100000
namespace Go.Proofs.YteflnddphpjahaaDoor
open Go.RowKit

/-- Numbers of a kind lie in memory. -/
def IntsAt (w : World) (k : IntKind) (p : Option Addr) (V : List Int) : Prop := ∀ j (h : j < V.length), ∃ g, p = some ⟨g, 0, none⟩ ∧ g < w.heap.size ∧ w.cell? ⟨g, j, none⟩ = some (.int k V[j])
theorem IntsAt.below {w w' : World} {k : IntKind} {p : Option Addr} {V : List Int} (h : IntsAt w k p V) (hb : Below w.heap.size w w') : IntsAt w' k p V := fun j hj => by
  obtain ⟨g, a, b, c⟩ := h j hj
  have := hb.size
  exact ⟨g, a, by omega, (hb.cell (p := ⟨g, j, none⟩) b).trans c⟩
theorem ints_of_own {w : World} {B e : Nat} {k : IntKind} {v : Value} {V : List Int} (h : w.ownsRow B e 1 v V.length (V.map (Value.int k))) : ∃ p cap, v = .slice p V.length cap ∧ IntsAt w k p V := by
  obtain ⟨p, cap, hv, hc⟩ := own_slice h
  refine ⟨p, cap, hv, fun j hj => ?_⟩
  obtain ⟨g, hp, _, hg, c0⟩ := hc j (by omega)
  exact ⟨g, hp, hg, by rw [c0]; simp [hj]⟩
def EdgesAt (w : World) (p : Option Addr) (E : List Sp.Ed) : Prop := ∀ j (h : j < E.length), ∃ g, p = some ⟨g, 0, none⟩ ∧ g < w.heap.size ∧ w.cell? ⟨g, j * 3, none⟩ = some (.int .i64 (E[j].frm : Int)) ∧ w.cell? ⟨g, j * 3 + 1, none⟩ = some (.int .i64 (E[j].to : Int)) ∧ w.cell? ⟨g, j * 3 + 2, none⟩ = some (.int .i64 E[j].n)
theorem EdgesAt.below {w w' : World} {p : Option Addr} {E : List Sp.Ed} (h : EdgesAt w p E) (hb : Below w.heap.size w w') : EdgesAt w' p E := fun j hj => by
  obtain ⟨g, a, b, c0, c1, c2⟩ := h j hj
  have := hb.size
  exact ⟨g, a, by omega, (hb.cell (p := ⟨g, _, none⟩) b).trans c0, (hb.cell (p := ⟨g, _, none⟩) b).trans c1, (hb.cell (p := ⟨g, _, none⟩) b).trans c2⟩
theorem ed_get (E : List Sp.Ed) : ∀ (k : Nat) (h : k < E.length), (edCells E)[k * 3]? = some (.int .i64 (E[k].frm : Int)) ∧ (edCells E)[k * 3 + 1]? = some (.int .i64 (E[k].to : Int)) ∧ (edCells E)[k * 3 + 2]? = some (.int .i64 E[k].n) := by
  induction E with
  | nil => intro k h; simp at h
  | cons l E ih =>
    intro k h
    cases k with
    | zero => exact ⟨rfl, rfl, rfl⟩
    | succ k =>
      have := ih k (by simpa using h)
      have e : edCells (l :: E) = [Value.int .i64 (l.frm : Int), .int .i64 (l.to : Int), .int .i64 l.n] ++ edCells E := rfl
      have a0 : (k + 1) * 3 = k * 3 + 3 := by omega
      rw [e, a0]
      simp only [List.cons_append, List.nil_append, List.getElem_cons_succ]
      exact this
theorem edges_of_own {w : World} {B e : Nat} {v : Value} {E : List Sp.Ed} (h : w.ownsRow B e 3 v E.length (edCells E)) : ∃ p cap, v = .slice p E.length cap ∧ EdgesAt w p E := by
  obtain ⟨p, cap, hv, hc⟩ := own_slice h
  refine ⟨p, cap, hv, fun k hk => ?_⟩
  obtain ⟨e0, e1, e2⟩ := ed_get E k hk
  obtain ⟨g, hp, _, hg, c0⟩ := hc (k * 3) (by omega)
  obtain ⟨g1, hp1, _, _, c1⟩ := hc (k * 3 + 1) (by omega)
  obtain ⟨g2, hp2, _, _, c2⟩ := hc (k * 3 + 2) (by omega)
  have q1 : g1 = g := by rw [hp] at hp1; injection hp1 with q; injection q with q; exact q.symm
  have q2 : g2 = g := by rw [hp] at hp2; injection hp2 with q; injection q with q; exact q.symm
  subst q1 q2
  exact ⟨_, hp, hg, c0.trans e0, c1.trans e1, c2.trans e2⟩

set_option maxHeartbeats 1000000 in
theorem sameValues_any (p p' : Option Addr) (cap cap' : Nat) (V : List Int) (w : World) (h : IntsAt w .i64 p V) (h' : IntsAt w .i64 p' V) (hl : V.length ≤ 100000000) :
    Calls Tryd.prog 27 #[.slice p V.length cap, .slice p' V.length cap'] w fun e w' => e = .returned (.bool true) ∧ Below w.heap.size w w' := by
  have g0 : (((V.length : Nat) : Int) != ((V.length : Nat) : Int)) = false := by simp
  go_enter Tryd.func27, Tryd.ntmps27
  go_wp2
  go_loopw [5] (fun i wr => ∃ k : Nat, k ≤ V.length ∧ i = .int .i64 k ∧ Below w.heap.size w wr) (fun i _ => V.length - (intOf i).toNat)
  case atStart => exact ⟨0, Nat.zero_le _, rfl, Below.refl _ _⟩
  case round =>
    obtain ⟨k, hk, rfl, hb⟩ := hrel
    by_cases hlt : k < V.length
    · obtain ⟨g, rfl, _, c⟩ := (h.below hb) k hlt
      obtain ⟨g', rfl, _, c'⟩ := (h'.below hb) k hlt
      have hk0 : (0 : Int) ≤ (k : Int) := Int.natCast_nonneg _
      have hk1 : (k : Int) < (V.length : Int) := by omega
      have hne : (V[k] != V[k]) = false := by simp
      go_wp2_with fail
      go_quiet (fail)
      go_wp2
      go_roundw
      case rel => exact ⟨k + 1, by omega, by go_num, hb.trans ((below_drewN _ _).mono hb.size)⟩
      case measure => simp [intOf]; omega
    · obtain rfl : k = V.length := by omega
      go_wp2
      go_ret
      exact ⟨rfl, hb⟩

set_option maxHeartbeats 4000000 in
theorem sameGraph_any (p0 p0' p1 p1' p2 p2' : Option Addr) (k0 k0' k1 k1' k2 k2' : Nat) (N V : List Int) (E : List Sp.Ed) (w : World) (h0 : IntsAt w .i32 p0 N) (h0' : IntsAt w .i32 p0' N) (h1 : IntsAt w .i64 p1 V) (h1' : IntsAt w .i64 p1' V) (h2 : EdgesAt w p2 E) (h2' : EdgesAt w p2' E)
    (hN : N.length ≤ 100000000) (hV : V.length ≤ 100000000) (hE : E.length ≤ 100000000) :
    Calls Tryd.prog 15 #[graphVal (.slice p0 N.length k0) (.slice p1 V.length k1) (.slice p2 E.length k2), graphVal (.slice p0' N.length k0') (.slice p1' V.length k1') (.slice p2' E.length k2')] w fun e w' => e = .returned (.bool true) ∧ Below w.heap.size w w' := by
  unfold graphVal
  have gn : (((N.length : Nat) : Int) != ((N.length : Nat) : Int)) = false := by simp
  have ge : (((E.length : Nat) : Int) != ((E.length : Nat) : Int)) = false := by simp
  go_enter Tryd.func15, Tryd.ntmps15
  go_wp2_with fail
  have b0 : Below w.heap.size w ((w.alloc (.cells #[.slice p0 N.length k0, .slice p1 V.length k1, .slice p2 E.length k2] 40)).alloc (.cells #[.slice p0' N.length k0', .slice p1' V.length k1', .slice p2' E.length k2'] 40)) := ((Below.refl _ _).alloc (Nat.le_refl _) _).alloc (by simp) _
  refine (sameValues_any p1 p1' k1 k1' V _ (h1.below b0) (h1'.below b0) hV).mono ?_
  rintro e w1 ⟨rfl, hb1⟩
  have z1 := hb1.size
  simp at z1
  have b1 := b0.trans (hb1.mono (by simp; omega))
  have xa : ∀ j, w1.cell? ⟨w.heap.size, j, none⟩ = ((w.alloc (.cells #[.slice p0 N.length k0, .slice p1 V.length k1, .slice p2 E.length k2] 40)).alloc (.cells #[.slice p0' N.length k0', .slice p1' V.length k1', .slice p2' E.length k2'] 40)).cell? ⟨w.heap.size, j, none⟩ := fun j => hb1.cell (p := ⟨w.heap.size, j, none⟩) (by simp; omega)
  have xb : ∀ j, w1.cell? ⟨w.heap.size + 1, j, none⟩ = ((w.alloc (.cells #[.slice p0 N.length k0, .slice p1 V.length k1, .slice p2 E.length k2] 40)).alloc (.cells #[.slice p0' N.length k0', .slice p1' V.length k1', .slice p2' E.length k2'] 40)).cell? ⟨w.heap.size + 1, j, none⟩ := fun j => hb1.cell (p := ⟨w.heap.size + 1, j, none⟩) (by simp)
  have xa0 := xa 0
  have xa2 := xa 2
  have xb0 := xb 0
  have xb2 := xb 2
  simp at xa0 xa2 xb0 xb2
  clear xa xb
  have hN1 := h0.below b1
  have hN1' := h0'.below b1
  have hE1 := h2.below b1
  have hE1' := h2'.below b1
  go_wp2_with fail
  go_loopw [6] (fun i wr => ∃ k : Nat, k ≤ N.length ∧ i = .int .i64 k ∧ Below w1.heap.size w1 wr) (fun i _ => N.length - (intOf i).toNat)
  case atStart => exact ⟨0, Nat.zero_le _, rfl, Below.refl _ _⟩
  case round =>
    obtain ⟨k, hk, rfl, hb⟩ := hrel
    have ya0 := (hb.cell (p := ⟨w.heap.size, 0, none⟩) (by show w.heap.size < _; omega)).trans xa0
    have yb0 := (hb.cell (p := ⟨w.heap.size + 1, 0, none⟩) (by show w.heap.size + 1 < _; omega)).trans xb0
    by_cases hlt : k < N.length
    · obtain ⟨g, rfl, _, c⟩ := (hN1.below hb) k hlt
      obtain ⟨g', rfl, _, c'⟩ := (hN1'.below hb) k hlt
      have hk0 : (0 : Int) ≤ (k : Int) := Int.natCast_nonneg _
      have hk1 : (k : Int) < (N.length : Int) := by omega
      have hne : (N[k] != N[k]) = false := by simp
      go_wp2_with fail
      go_quiet (fail)
      go_wp2
      go_roundw
      case rel => exact ⟨k + 1, by omega, by go_num, hb.trans ((below_drewN _ _).mono hb.size)⟩
      case measure => simp [intOf]; omega
    · obtain rfl : k = N.length := by omega
      go_wp2_with fail
      go_loopw [7] (fun i wr => ∃ k : Nat, k ≤ E.length ∧ i = .int .i64 k ∧ Below w1.heap.size w1 wr) (fun i _ => E.length - (intOf i).toNat)
      case atStart => exact ⟨0, Nat.zero_le _, rfl, hb⟩
      case round =>
        clear hb ya0 yb0
        obtain ⟨k, hk, rfl, hb⟩ := hrel
        have ya2 := (hb.cell (p := ⟨w.heap.size, 2, none⟩) (by show w.heap.size < _; omega)).trans xa2
        have yb2 := (hb.cell (p := ⟨w.heap.size + 1, 2, none⟩) (by show w.heap.size + 1 < _; omega)).trans xb2
        by_cases hlt : k < E.length
        · obtain ⟨g, rfl, _, c0, c1, c2⟩ := (hE1.below hb) k hlt
          obtain ⟨g', rfl, _, c0', c1', c2'⟩ := (hE1'.below hb) k hlt
          have hk0 : (0 : Int) ≤ (k : Int) := Int.natCast_nonneg _
          have hk1 : (k : Int) < (E.length : Int) := by omega
          go_wp2_with fail
          go_quiet (fail)
          go_wp2
          go_roundw
          case rel => exact ⟨k + 1, by omega, by go_num, hb.trans ((below_drewN _ _).mono hb.size)⟩
          case measure => simp [intOf]; omega
        · obtain rfl : k = E.length := by omega
          go_wp2
          go_ret
          exact ⟨rfl, b1.trans (hb.mono b1.size)⟩
end Go.Proofs.YteflnddphpjahaaDoor
