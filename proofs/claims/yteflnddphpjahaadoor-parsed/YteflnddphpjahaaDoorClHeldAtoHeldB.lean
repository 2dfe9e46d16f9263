import Derived.Test.YteflnddphpjahaaDoorProg
import Derived.Test.YteflnddphpjahaaDoorClComtoCopyK
import Derived.Test.YteflnddphpjahaaDoorClGMem
import Derived.WalkKit
import Derived.Outline
import Derived.Deep.DeepMust
/-
  The lists that are held: what lies in memory; the walks of mark and values.
-/
set_option linter.unusedVariables false
set_option linter.unusedSimpArgs false
set_option maxRecDepth 100000
namespace Go.Proofs.YteflnddphpjahaaDoor
open Go.RowKit

theorem Tryd.info_hv : (Tryd.prog.info? 51).map (fun i => (i.zero, i.size, i.bytes)) = some (some (.agg #[.slice none 0 0, .int .i64 0]), 2, 32) := by kernel_rfl
theorem Tryd.info_hn : (Tryd.prog.info? 53).map (fun i => (i.zero, i.size, i.bytes)) = some (some (.agg #[.slice none 0 0, .int .i64 0]), 2, 32) := by kernel_rfl
theorem Tryd.info_he : (Tryd.prog.info? 56).map (fun i => (i.zero, i.size, i.bytes)) = some (some (.agg #[.slice none 0 0, .int .i64 0]), 2, 32) := by kernel_rfl

/-- n times the cells mk. -/
def rep (mk : List Value) : Nat → List Value
  | 0 => []
  | n + 1 => rep mk n ++ mk
/-- What the lists of held lists hold. -/
def hCells (l : List (Value × Int)) : List Value := l.flatMap fun p => [p.1, .int .i64 p.2]
theorem hCells_snoc (l : List (Value × Int)) (v : Value) (m : Int) : hCells (l ++ [(v, m)]) = hCells l ++ [v, .int .i64 m] := by simp [hCells]
def mkV (m : Int) : List Value := [.int .i64 m]
def mkN (m : Int) : List Value := [.int .i32 (m % 1000000007)]
def mkE (m : Int) : List Value := [.int .i64 m, .int .i64 (-m), .int .i64 m]
/-- A list reads as its mark. -/
def Marked (w : World) (e size : Nat) (mk : Int → List Value) (p : Value × Int) : Prop := ∃ n, n ≤ 100000 ∧ w.ownsRow 0 e size p.1 n (rep (mk p.2) n)

structure HeldSt (w : World) (H N : Nat) (v1 v2 v3 : Value) (hv hn he : List (Value × Int)) : Prop where
  lt : H < w.heap.size
  small : N ≤ 1000 ∧ hv.length ≤ 1000 ∧ hn.length ≤ 1000 ∧ he.length ≤ 1000
  c0 : w.cell? ⟨H, 0, none⟩ = some (.int .i64 N)
  c1 : w.cell? ⟨H, 1, none⟩ = some v1
  c2 : w.cell? ⟨H, 2, none⟩ = some v2
  c3 : w.cell? ⟨H, 3, none⟩ = some v3
  c4 : w.cell? ⟨H, 4, none⟩ = some (.slice none 0 0)
  c5 : w.cell? ⟨H, 5, none⟩ = some (.slice none 0 0)
  fz : ∀ j, w.frozen? ⟨H, j, none⟩ = false
  r1 : w.ownsRow (H + 1) 51 2 v1 hv.length (hCells hv)
  r2 : w.ownsRow (H + 1) 53 2 v2 hn.length (hCells hn)
  r3 : w.ownsRow (H + 1) 56 2 v3 he.length (hCells he)
  m1 : ∀ p ∈ hv, Marked w 2 1 mkV p
  m2 : ∀ p ∈ hn, Marked w 21 1 mkN p
  m3 : ∀ p ∈ he, Marked w 58 3 mkE p

set_option maxHeartbeats 400000 in
theorem mark_any (H N : Nat) (w : World) (hN : N ≤ 2000) (c0 : w.cell? ⟨H, 0, none⟩ = some (.int .i64 N)) (f0 : w.frozen? ⟨H, 0, none⟩ = false) :
    Calls Tryd.prog 29 #[.pointer (some ⟨H, 0, none⟩)] w fun e w' => e = .returned (.int .i64 (1099511627783 + ((N + 1 : Nat) : Int))) ∧ w' = w.setCell ⟨H, 0, none⟩ (.int .i64 ((N + 1 : Nat) : Int)) := by
  go_enter Tryd.func29, Tryd.ntmps29
  go_wp2
  go_ret
  exact ⟨by go_num, by go_num⟩
end Go.Proofs.YteflnddphpjahaaDoor
/-
  The lists that are held: how the state passes through a step.
-/
set_option linter.unusedVariables false
set_option linter.unusedSimpArgs false
set_option maxRecDepth 100000
namespace Go.Proofs.YteflnddphpjahaaDoor
open Go.RowKit

theorem grown_setCell (w : World) (g j : Nat) (u : Value) : w.grownBy (w.setCell ⟨g, j, none⟩ u) (some g) :=
  ⟨rfl, rfl, rfl, by simp [World.setCell], fun k _ hne => Below.heap_setCell _ _ _ _ (fun (e : k = g) => hne (by rw [e]))⟩
theorem Marked.kept {w w' : World} {e size : Nat} {mk : Int → List Value} {p : Value × Int} {row : Option Nat} (h : Marked w e size mk p) (hg : w.grownBy w' row) (hne : p.1.ownBlock = none ∨ p.1.ownBlock ≠ row) : Marked w' e size mk p := by
  obtain ⟨n, hn, ho⟩ := h
  exact ⟨n, hn, ho.kept hg hne⟩
theorem Marked.other {w w' : World} {e size B e' s n : Nat} {mk : Int → List Value} {p : Value × Int} {v : Value} {xs : List Value} (h : Marked w e size mk p) (hv : w.ownsRow B e' s v n xs) (hg : w.grownBy w' v.ownBlock) (he : e ≠ e') : Marked w' e size mk p := by
  obtain ⟨n, hn, ho⟩ := h
  exact ⟨n, hn, ho.kept hg (own_ne ho hv he)⟩
theorem HeldSt.grown {w w' : World} {H N : Nat} {v1 v2 v3 : Value} {hv hn he : List (Value × Int)} {row : Option Nat} (h : HeldSt w H N v1 v2 v3 hv hn he) (hg : w.grownBy w' row) (h0 : some H ≠ row)
    (a1 : v1.ownBlock = none ∨ v1.ownBlock ≠ row) (a2 : v2.ownBlock = none ∨ v2.ownBlock ≠ row) (a3 : v3.ownBlock = none ∨ v3.ownBlock ≠ row)
    (b1 : ∀ p ∈ hv, Marked w' 2 1 mkV p) (b2 : ∀ p ∈ hn, Marked w' 21 1 mkN p) (b3 : ∀ p ∈ he, Marked w' 58 3 mkE p) : HeldSt w' H N v1 v2 v3 hv hn he := by
  have hl := h.lt
  have hc : ∀ j, w'.cell? ⟨H, j, none⟩ = w.cell? ⟨H, j, none⟩ := fun j => hg.cell_far ⟨H, j, none⟩ hl h0
  have hs := hg.size
  exact ⟨by omega, h.small, (hc 0).trans h.c0, (hc 1).trans h.c1, (hc 2).trans h.c2, (hc 3).trans h.c3, (hc 4).trans h.c4, (hc 5).trans h.c5,
    fun j => (hg.frozen_far ⟨H, j, none⟩ hl h0).trans (h.fz j), h.r1.kept hg a1, h.r2.kept hg a2, h.r3.kept hg a3, b1, b2, b3⟩
theorem HeldSt.alloc {w : World} {H N : Nat} {v1 v2 v3 : Value} {hv hn he : List (Value × Int)} (h : HeldSt w H N v1 v2 v3 hv hn he) (o : Obj) : HeldSt (w.alloc o) H N v1 v2 v3 hv hn he :=
  h.grown (World.grownBy_alloc w o none) (by simp) (by cases v1.ownBlock <;> simp) (by cases v2.ownBlock <;> simp) (by cases v3.ownBlock <;> simp)
    (fun p hp => (h.m1 p hp).kept (World.grownBy_alloc w o none) (by cases p.1.ownBlock <;> simp))
    (fun p hp => (h.m2 p hp).kept (World.grownBy_alloc w o none) (by cases p.1.ownBlock <;> simp))
    (fun p hp => (h.m3 p hp).kept (World.grownBy_alloc w o none) (by cases p.1.ownBlock <;> simp))
theorem HeldSt.below {w w' : World} {H N : Nat} {v1 v2 v3 : Value} {hv hn he : List (Value × Int)} (h : HeldSt w H N v1 v2 v3 hv hn he) (hb : Below w.heap.size w w') : HeldSt w' H N v1 v2 v3 hv hn he := by
  have hg : w.grownBy w' none := ⟨hb.os, hb.tape, hb.output, hb.size, fun k hk _ => hb.block k hk⟩
  exact h.grown hg (by simp) (by cases v1.ownBlock <;> simp) (by cases v2.ownBlock <;> simp) (by cases v3.ownBlock <;> simp)
    (fun p hp => (h.m1 p hp).kept hg (by cases p.1.ownBlock <;> simp)) (fun p hp => (h.m2 p hp).kept hg (by cases p.1.ownBlock <;> simp)) (fun p hp => (h.m3 p hp).kept hg (by cases p.1.ownBlock <;> simp))
/-- A store into the struct itself: every row stays. -/
theorem own_setH {w : World} {H e size n B : Nat} {v : Value} {xs : List Value} (h : w.ownsRow B e size v n xs) (hne : v.ownBlock ≠ some H) (j : Nat) (u : Value) : (w.setCell ⟨H, j, none⟩ u).ownsRow B e size v n xs :=
  h.kept (grown_setCell w H j u) (.inr hne)
theorem Marked.setH {w : World} {H e size : Nat} {mk : Int → List Value} {p : Value × Int} (h : Marked w e size mk p) (hne : p.1.ownBlock ≠ some H) (j : Nat) (u : Value) : Marked (w.setCell ⟨H, j, none⟩ u) e size mk p :=
  h.kept (grown_setCell w H j u) (.inr hne)
/-- No held list lies at the struct's own block. -/
def Off (H : Nat) (l : List (Value × Int)) : Prop := ∀ p ∈ l, p.1.ownBlock ≠ some H
theorem HeldSt.setN {w : World} {H N : Nat} {v1 v2 v3 : Value} {hv hn he : List (Value × Int)} (h : HeldSt w H N v1 v2 v3 hv hn he) (o1 : Off H hv) (o2 : Off H hn) (o3 : Off H he) (hN : N + 1 ≤ 1000) :
    HeldSt (w.setCell ⟨H, 0, none⟩ (.int .i64 ((N + 1 : Nat) : Int))) H (N + 1) v1 v2 v3 hv hn he := by
  have hne : ∀ v : Value, ∀ e s n xs, w.ownsRow (H + 1) e s v n xs → v.ownBlock ≠ some H := fun v e s n xs ho e1 => by have := (ho.lt H e1).1; omega
  have hc : ∀ j, j ≠ 0 → (w.setCell ⟨H, 0, none⟩ (.int .i64 ((N + 1 : Nat) : Int))).cell? ⟨H, j, none⟩ = w.cell? ⟨H, j, none⟩ := fun j hj => World.cell?_setCell_other _ _ _ _ (by simp [hj])
  refine ⟨by simp [World.setCell]; exact h.lt, ⟨hN, h.small.2⟩, World.cell?_setCell_same _ _ _ h.c0, (hc 1 (by omega)).trans h.c1, (hc 2 (by omega)).trans h.c2, (hc 3 (by omega)).trans h.c3, (hc 4 (by omega)).trans h.c4, (hc 5 (by omega)).trans h.c5,
    fun j => (World.frozen?_setCell _ _ _ _).trans (h.fz j), own_setH h.r1 (hne _ _ _ _ _ h.r1) _ _, own_setH h.r2 (hne _ _ _ _ _ h.r2) _ _, own_setH h.r3 (hne _ _ _ _ _ h.r3) _ _,
    fun p hp => (h.m1 p hp).setH (o1 p hp) _ _, fun p hp => (h.m2 p hp).setH (o2 p hp) _ _, fun p hp => (h.m3 p hp).setH (o3 p hp) _ _⟩
/-- One held list of values more. -/
theorem HeldSt.app1 {w w1 : World} {H N : Nat} {v1 v2 v3 v' : Value} {hv hn he : List (Value × Int)} {p : Value × Int} (h : HeldSt w H N v1 v2 v3 hv hn he) (o1 : Off H (hv ++ [p])) (o2 : Off H hn) (o3 : Off H he)
    (ho : w1.ownsRow (H + 1) 51 2 v' (hv.length + 1) (hCells hv ++ [p.1, .int .i64 p.2])) (hg : w.grownBy w1 v1.ownBlock) (hm : Marked w 2 1 mkV p) (hs : hv.length + 1 ≤ 1000) :
    HeldSt (w1.setCell ⟨H, 1, none⟩ v') H N v' v2 v3 (hv ++ [p]) hn he := by
  have hl := h.lt
  have h0 : some H ≠ v1.ownBlock := fun e => by have := (h.r1.lt H e.symm).1; omega
  have hc : ∀ j, w1.cell? ⟨H, j, none⟩ = w.cell? ⟨H, j, none⟩ := fun j => hg.cell_far ⟨H, j, none⟩ hl h0
  have hd : ∀ j, j ≠ 1 → (w1.setCell ⟨H, 1, none⟩ v').cell? ⟨H, j, none⟩ = w.cell? ⟨H, j, none⟩ := fun j hj => (World.cell?_setCell_other _ _ _ _ (by simp [hj])).trans (hc j)
  have hz := hg.size
  have hne : ∀ v : Value, ∀ e s n xs, w1.ownsRow (H + 1) e s v n xs → v.ownBlock ≠ some H := fun v e s n xs ho e1 => by have := (ho.lt H e1).1; omega
  have hle : (hv ++ [p]).length ≤ 1000 := by simp; omega
  refine ⟨by simp [World.setCell]; omega, ⟨h.small.1, hle, h.small.2.2⟩, (hd 0 (by omega)).trans h.c0, World.cell?_setCell_same _ _ _ ((hc 1).trans h.c1), (hd 2 (by omega)).trans h.c2, (hd 3 (by omega)).trans h.c3, (hd 4 (by omega)).trans h.c4, (hd 5 (by omega)).trans h.c5,
    fun j => (World.frozen?_setCell _ _ _ _).trans ((hg.frozen_far ⟨H, j, none⟩ hl h0).trans (h.fz j)), ?_, ?_, ?_, ?_, ?_, ?_⟩
  · have : w1.ownsRow (H + 1) 51 2 v' (hv ++ [p]).length (hCells (hv ++ [p])) := by rw [hCells_snoc]; simpa using ho
    exact own_setH this (hne _ _ _ _ _ this) _ _
  · have := own_app h.r1 h.r2 (by decide) hg
    exact own_setH this (hne _ _ _ _ _ this) _ _
  · have := own_app h.r1 h.r3 (by decide) hg
    exact own_setH this (hne _ _ _ _ _ this) _ _
  · intro q hq
    refine Marked.setH ?_ (o1 q hq) _ _
    rcases List.mem_append.1 hq with hq | hq
    · exact (h.m1 q hq).other h.r1 hg (by decide)
    · rw [List.mem_singleton.1 hq]; exact hm.other h.r1 hg (by decide)
  · intro q hq; exact ((h.m2 q hq).other h.r1 hg (by decide)).setH (o2 q hq) _ _
  · intro q hq; exact ((h.m3 q hq).other h.r1 hg (by decide)).setH (o3 q hq) _ _
/-- One held list of names more. -/
theorem HeldSt.app2 {w w1 : World} {H N : Nat} {v1 v2 v3 v' : Value} {hv hn he : List (Value × Int)} {p : Value × Int} (h : HeldSt w H N v1 v2 v3 hv hn he) (o1 : Off H hv) (o2 : Off H (hn ++ [p])) (o3 : Off H he)
    (ho : w1.ownsRow (H + 1) 53 2 v' (hn.length + 1) (hCells hn ++ [p.1, .int .i64 p.2])) (hg : w.grownBy w1 v2.ownBlock) (hm : Marked w 21 1 mkN p) (hs : hn.length + 1 ≤ 1000) :
    HeldSt (w1.setCell ⟨H, 2, none⟩ v') H N v1 v' v3 hv (hn ++ [p]) he := by
  have hl := h.lt
  have h0 : some H ≠ v2.ownBlock := fun e => by have := (h.r2.lt H e.symm).1; omega
  have hc : ∀ j, w1.cell? ⟨H, j, none⟩ = w.cell? ⟨H, j, none⟩ := fun j => hg.cell_far ⟨H, j, none⟩ hl h0
  have hd : ∀ j, j ≠ 2 → (w1.setCell ⟨H, 2, none⟩ v').cell? ⟨H, j, none⟩ = w.cell? ⟨H, j, none⟩ := fun j hj => (World.cell?_setCell_other _ _ _ _ (by simp [hj])).trans (hc j)
  have hz := hg.size
  have hne : ∀ v : Value, ∀ e s n xs, w1.ownsRow (H + 1) e s v n xs → v.ownBlock ≠ some H := fun v e s n xs ho e1 => by have := (ho.lt H e1).1; omega
  have hle : (hn ++ [p]).length ≤ 1000 := by simp; omega
  refine ⟨by simp [World.setCell]; omega, ⟨h.small.1, h.small.2.1, hle, h.small.2.2.2⟩, (hd 0 (by omega)).trans h.c0, (hd 1 (by omega)).trans h.c1, World.cell?_setCell_same _ _ _ ((hc 2).trans h.c2), (hd 3 (by omega)).trans h.c3, (hd 4 (by omega)).trans h.c4, (hd 5 (by omega)).trans h.c5,
    fun j => (World.frozen?_setCell _ _ _ _).trans ((hg.frozen_far ⟨H, j, none⟩ hl h0).trans (h.fz j)), ?_, ?_, ?_, ?_, ?_, ?_⟩
  · have := own_app h.r2 h.r1 (by decide) hg
    exact own_setH this (hne _ _ _ _ _ this) _ _
  · have : w1.ownsRow (H + 1) 53 2 v' (hn ++ [p]).length (hCells (hn ++ [p])) := by rw [hCells_snoc]; simpa using ho
    exact own_setH this (hne _ _ _ _ _ this) _ _
  · have := own_app h.r2 h.r3 (by decide) hg
    exact own_setH this (hne _ _ _ _ _ this) _ _
  · intro q hq; exact ((h.m1 q hq).other h.r2 hg (by decide)).setH (o1 q hq) _ _
  · intro q hq
    refine Marked.setH ?_ (o2 q hq) _ _
    rcases List.mem_append.1 hq with hq | hq
    · exact (h.m2 q hq).other h.r2 hg (by decide)
    · rw [List.mem_singleton.1 hq]; exact hm.other h.r2 hg (by decide)
  · intro q hq; exact ((h.m3 q hq).other h.r2 hg (by decide)).setH (o3 q hq) _ _
/-- One held list of edges more. -/
theorem HeldSt.app3 {w w1 : World} {H N : Nat} {v1 v2 v3 v' : Value} {hv hn he : List (Value × Int)} {p : Value × Int} (h : HeldSt w H N v1 v2 v3 hv hn he) (o1 : Off H hv) (o2 : Off H hn) (o3 : Off H (he ++ [p]))
    (ho : w1.ownsRow (H + 1) 56 2 v' (he.length + 1) (hCells he ++ [p.1, .int .i64 p.2])) (hg : w.grownBy w1 v3.ownBlock) (hm : Marked w 58 3 mkE p) (hs : he.length + 1 ≤ 1000) :
    HeldSt (w1.setCell ⟨H, 3, none⟩ v') H N v1 v2 v' hv hn (he ++ [p]) := by
  have hl := h.lt
  have h0 : some H ≠ v3.ownBlock := fun e => by have := (h.r3.lt H e.symm).1; omega
  have hc : ∀ j, w1.cell? ⟨H, j, none⟩ = w.cell? ⟨H, j, none⟩ := fun j => hg.cell_far ⟨H, j, none⟩ hl h0
  have hd : ∀ j, j ≠ 3 → (w1.setCell ⟨H, 3, none⟩ v').cell? ⟨H, j, none⟩ = w.cell? ⟨H, j, none⟩ := fun j hj => (World.cell?_setCell_other _ _ _ _ (by simp [hj])).trans (hc j)
  have hz := hg.size
  have hne : ∀ v : Value, ∀ e s n xs, w1.ownsRow (H + 1) e s v n xs → v.ownBlock ≠ some H := fun v e s n xs ho e1 => by have := (ho.lt H e1).1; omega
  have hle : (he ++ [p]).length ≤ 1000 := by simp; omega
  refine ⟨by simp [World.setCell]; omega, ⟨h.small.1, h.small.2.1, h.small.2.2.1, hle⟩, (hd 0 (by omega)).trans h.c0, (hd 1 (by omega)).trans h.c1, (hd 2 (by omega)).trans h.c2, World.cell?_setCell_same _ _ _ ((hc 3).trans h.c3), (hd 4 (by omega)).trans h.c4, (hd 5 (by omega)).trans h.c5,
    fun j => (World.frozen?_setCell _ _ _ _).trans ((hg.frozen_far ⟨H, j, none⟩ hl h0).trans (h.fz j)), ?_, ?_, ?_, ?_, ?_, ?_⟩
  · have := own_app h.r3 h.r1 (by decide) hg
    exact own_setH this (hne _ _ _ _ _ this) _ _
  · have := own_app h.r3 h.r2 (by decide) hg
    exact own_setH this (hne _ _ _ _ _ this) _ _
  · have : w1.ownsRow (H + 1) 56 2 v' (he ++ [p]).length (hCells (he ++ [p])) := by rw [hCells_snoc]; simpa using ho
    exact own_setH this (hne _ _ _ _ _ this) _ _
  · intro q hq; exact ((h.m1 q hq).other h.r3 hg (by decide)).setH (o1 q hq) _ _
  · intro q hq; exact ((h.m2 q hq).other h.r3 hg (by decide)).setH (o2 q hq) _ _
  · intro q hq
    refine Marked.setH ?_ (o3 q hq) _ _
    rcases List.mem_append.1 hq with hq | hq
    · exact (h.m3 q hq).other h.r3 hg (by decide)
    · rw [List.mem_singleton.1 hq]; exact hm.other h.r3 hg (by decide)
end Go.Proofs.YteflnddphpjahaaDoor
