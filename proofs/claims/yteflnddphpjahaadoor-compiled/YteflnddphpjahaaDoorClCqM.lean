import Derived.Test.YteflnddphpjahaaDoorClCqL
import Derived.Defers
import Derived.Recover
import Derived.Laws.Tables
/-
  The program's keepsToStack: a deferred function recovers.
-/
set_option linter.unusedVariables false
set_option linter.unusedSimpArgs false
set_option maxRecDepth 100000
namespace Go.Proofs.YteflnddphpjahaaDoor
open Go.RowKit

theorem kcatch_panic (p : Addr) (x : Bool) (u : TypeId) (pv : Value) (older : List PanicEntry) (w : World) (hc : w.cell? p = some (.bool x)) (hz : w.frozen? p = false) :
    CallsD Tryd.prog 66 #[.pointer (some p)] (.panicking ({ v := .iface u pv, recovered := false } :: older)) w fun e u' w' =>
      e = .returned (.tuple #[]) ∧ u' = .panicking ({ v := .iface u pv, recovered := true } :: older) ∧ w' = w.setCell p (.bool false) := by
  refine callsD_of_wpS Tryd.func66 rfl fun c₀ cs hu => ?_
  apply wpS_seq
  apply wpS_region
  simp [wpOpsS, go_sem, recoverD, hu, Tryd.ntmps66, Exit.thenS]
  refine wpS_cond (t := true) (by simp [Act.eval, Array.replicate]) ?_
  simp only [if_true]
  apply wpS_region
  simp [wpOpsS, go_sem, hc, hz, bodyPostS, results, Tryd.results66]
theorem kcatch_idle (p : Addr) (w : World) :
    CallsD Tryd.prog 66 #[.pointer (some p)] .returning w fun e u' w' => e = .returned (.tuple #[]) ∧ u' = .returning ∧ w' = w := by
  refine callsD_of_wpS Tryd.func66 rfl fun c₀ cs hu => ?_
  apply wpS_seq
  apply wpS_region
  simp [wpOpsS, go_sem, recoverD, hu, Tryd.ntmps66, Exit.thenS]
  refine wpS_cond (t := false) (by simp [Act.eval, Array.replicate]) ?_
  simp only [Bool.false_eq_true, if_false]
  refine wpS_of_wp (wp_skip ?_)
  cases c₀
  simp_all [bodyPostS, results, Tryd.results66]

def machV (code : Value) (fuel : Int) (dry : Bool := true) : Array Value := #[code, .int .i64 0, .int .i64 fuel, .int .i64 0, .int .i64 0, .int .i64 0, .int .i64 0, .int .i64 0, .int .i64 0, .int .i64 0, .int .i64 0, .int .i64 0, .int .i64 0, .int .i64 0, .int .i64 0, .int .i64 0, .int .i64 0, .int .i64 0, .int .i64 0, .int .i64 0, .int .i64 0, .int .i64 0, .int .i64 0, .int .i64 0, .int .i64 0, .int .i64 0, .int .i64 0, .int .i64 0, .int .i64 0, .slice none 0 0, .bool dry]
theorem Dry.of_mach {w : World} {M n t : Nat} {code : Value} (h : w.heap[M]? = some (.cells (machV code n) t)) : Dry w M code 0 n 0 (.slice none 0 0) := by
  refine ⟨by simp [World.cell?, h, machV], by simp [World.cell?, h, machV], by simp [World.cell?, h, machV], fun j hj => ?_, fun j hj => ?_, by simp [World.cell?, h, machV], by simp [World.cell?, h, machV], by simp [World.cell?, h, machV], fun j => by simp [World.frozen?, h]⟩
  · match j, hj with
    | 0, _ => exact ⟨0, by simp [World.cell?, h, machV]⟩
    | 1, _ => exact ⟨0, by simp [World.cell?, h, machV]⟩
    | 2, _ => exact ⟨0, by simp [World.cell?, h, machV]⟩
    | 3, _ => exact ⟨0, by simp [World.cell?, h, machV]⟩
    | 4, _ => exact ⟨0, by simp [World.cell?, h, machV]⟩
    | 5, _ => exact ⟨0, by simp [World.cell?, h, machV]⟩
    | 6, _ => exact ⟨0, by simp [World.cell?, h, machV]⟩
    | 7, _ => exact ⟨0, by simp [World.cell?, h, machV]⟩
    | 8, _ => exact ⟨0, by simp [World.cell?, h, machV]⟩
  · match j, hj with
    | 0, _ => exact ⟨0, by simp [World.cell?, h, machV]⟩
    | 1, _ => exact ⟨0, by simp [World.cell?, h, machV]⟩
    | 2, _ => exact ⟨0, by simp [World.cell?, h, machV]⟩
    | 3, _ => exact ⟨0, by simp [World.cell?, h, machV]⟩
    | 4, _ => exact ⟨0, by simp [World.cell?, h, machV]⟩
    | 5, _ => exact ⟨0, by simp [World.cell?, h, machV]⟩
    | 6, _ => exact ⟨0, by simp [World.cell?, h, machV]⟩
    | 7, _ => exact ⟨0, by simp [World.cell?, h, machV]⟩
    | 8, _ => exact ⟨0, by simp [World.cell?, h, machV]⟩
    | 9, _ => exact ⟨0, by simp [World.cell?, h, machV]⟩
    | 10, _ => exact ⟨0, by simp [World.cell?, h, machV]⟩
    | 11, _ => exact ⟨0, by simp [World.cell?, h, machV]⟩
    | 12, _ => exact ⟨0, by simp [World.cell?, h, machV]⟩
    | 13, _ => exact ⟨0, by simp [World.cell?, h, machV]⟩
    | 14, _ => exact ⟨0, by simp [World.cell?, h, machV]⟩
    | 15, _ => exact ⟨0, by simp [World.cell?, h, machV]⟩
    | n + 16, hj => exact absurd hj (by omega)
theorem below_setRow {B : Nat} {w w' : World} (h : Below B w w') {g : Nat} (hg : B ≤ g) (cs : Array Value) : Below B w (w'.setRow g cs) := by
  refine ⟨h.1, h.2, h.3, ?_, fun k hk => ?_⟩
  · have := h.size; simp [World.setRow]; exact this
  · rw [← h.block k hk]; simp only [World.setRow, Array.getElem?_modify]; rw [if_neg (by omega)]
/-- What keepsToStack is given: code in a row, below all that is new. -/
structure CodeIn (w : World) (g : Nat) (L : List (List UInt8)) (u : TypeId) (p : Value) : Prop where
  row : CodeRow w w.heap.size g L
  len : L.length ≤ 4000
  pos : 0 < L.length
  fm : Sp.fmd true L 0 = true
  err : w.cell? ⟨4, 0, none⟩ = some (.iface u p)
  lt : 4 < w.heap.size

set_option maxHeartbeats 2000000 in
theorem keeps_any (L : List (List UInt8)) (g cap : Nat) (u : TypeId) (p : Value) (w : World) (h : CodeIn w g L u p) :
    Calls Tryd.prog 48 #[.slice (some ⟨g, 0, none⟩) L.length cap] w fun e w' => e = .returned (.bool (Sp.keeps L)) ∧ Below w.heap.size w w' := by
  have hmf : ∀ (fn : Go.Fn) (first cap : Array Value) (w : World), (Instr.makeFunc fn first cap).run Tryd.prog w = .ok (.func fn first cap) w := fun _ _ _ _ => rfl
  have H := hide h
  clear h
  obtain ⟨kp, HKP⟩ : ∃ kp, Hid (Sp.keeps L = kp) := ⟨_, rfl⟩
  rw [unhide HKP]
  go_enter_defers Tryd.func48, Tryd.ntmps48
  iterate 38 (first | go_values | go_skip | go_guarded | go_step | go_upon | (simp only [Int.not_lt, Int.not_le] at *; go_simp))
  refine wp_store_row 156 (.tmp 3) (.tmp 8) rfl (w.heap.size + 1) (machV (.slice (some ⟨g, 0, none⟩) L.length cap) L.length) rfl rfl 156 (machV (.slice none 0 0) 0 false) ?h1 (by kernel_rfl) rfl (by simp [machV, Value.oneCell']) ?h2
  case h1 =>
    rw [← World.size_alloc w (.cells #[.bool false] 4)]
    exact heap_alloc_new _ _
  case h2 =>
  have hb : Below w.heap.size w (((w.alloc (.cells #[.bool false] 4)).alloc (.cells (machV (.slice none 0 0) 0 false) 156)).setRow (w.heap.size + 1) (machV (.slice (some ⟨g, 0, none⟩) L.length cap) L.length)) := below_setRow (((Below.refl _ w).alloc (Nat.le_refl _) _).alloc (by simp) _) (by omega) _
  have hM : (((w.alloc (.cells #[.bool false] 4)).alloc (.cells (machV (.slice none 0 0) 0 false) 156)).setRow (w.heap.size + 1) (machV (.slice (some ⟨g, 0, none⟩) L.length cap) L.length)).heap[w.heap.size + 1]? = some (.cells (machV (.slice (some ⟨g, 0, none⟩) L.length cap) L.length) 156 (0, 0)) := by
    refine setRow_heap _ _ (machV (.slice none 0 0) 0 false) _ _ _ ?_
    rw [← World.size_alloc w (.cells #[.bool false] 4)]
    exact heap_alloc_new _ _
  have hK : (((w.alloc (.cells #[.bool false] 4)).alloc (.cells (machV (.slice none 0 0) 0 false) 156)).setRow (w.heap.size + 1) (machV (.slice (some ⟨g, 0, none⟩) L.length cap) L.length)).heap[w.heap.size]? = some (.cells #[.bool false] 4 (0, 0)) := by
    simp only [World.setRow, Array.getElem?_modify]
    rw [if_neg (by omega), Below.heap_alloc _ _ _ (by simp)]
    exact heap_alloc_new w _
  generalize hW : World.setRow _ _ _ = W
  replace hb : Below w.heap.size w W := by rw [← hW]; exact hb
  replace hM : W.heap[w.heap.size + 1]? = some (.cells (machV (.slice (some ⟨g, 0, none⟩) L.length cap) L.length) 156 (0, 0)) := by rw [← hW]; exact hM
  replace hK : W.heap[w.heap.size]? = some (.cells #[.bool false] 4 (0, 0)) := by rw [← hW]; exact hK
  clear hW
  have hlt : w.heap.size + 1 < W.heap.size := (Array.getElem?_eq_some_iff.1 hM).1
  have hrun := run_any L (w.heap.size + 1) g cap u p W (unhide H).len ⟨_, Dry.of_mach hM, World.ownsRow_nil _ _ _ _⟩ (by
    obtain ⟨hg, hr⟩ := (unhide H).row
    refine ⟨by omega, fun i hi => ?_⟩
    obtain ⟨fv, h1, h2⟩ := hr i hi
    refine ⟨fv, (hb.cell (p := ⟨g, i * 2, none⟩) hg).trans h1, ?_⟩
    rcases h2 with ⟨B, n, q1, q2, q3, q4⟩ | h2
    · exact Or.inl ⟨B, n, by omega, q2, (hb.block B q1).trans q3, q4⟩
    · exact Or.inr h2) (unhide H).fm (by have := (unhide H).lt; omega) ((hb.cell (p := ⟨4, 0, none⟩) (unhide H).lt).trans (unhide H).err)
  have hks := Sp.keeps_drun (unhide H).fm
  go_wp2_with fail
  refine hrun.mono ?_
  clear hrun
  rcases hks with ⟨hq, hdr⟩ | ⟨hq, hdr | ⟨hh, hne, hdr⟩⟩
  · obtain rfl : true = kp := hq.symm.trans (unhide HKP)
    rw [hdr]
    rintro e w1 ⟨hk, rfl, a, f, x, hd, _⟩
    have e1 := hd.hh
    have k1 : w1.heap[w.heap.size]? = _ := (hk.block w.heap.size (by omega)).trans hK
    have e2 : w1.cell? ⟨w.heap.size, 0, none⟩ = some (.bool false) := by simp [World.cell?, k1]
    have e3 : w1.frozen? ⟨w.heap.size, 0, none⟩ = false := by simp [World.frozen?, k1]
    have hbw : Below w.heap.size w w1 := hb.trans (hk.mono (by omega))
    clear hd hk k1 hb hM hK hlt
    go_wp2
    refine leaves_cons (f := 66) (args := #[.pointer (some ⟨w.heap.size, 0, none⟩)]) (by simp) (by simp [go_sem]) ?_
    refine (kcatch_idle ⟨w.heap.size, 0, none⟩ _).mono ?_
    rintro e u' w'' ⟨rfl, rfl, rfl⟩
    have q1 := World.cell?_setCell_same w1 ⟨w.heap.size, 0, none⟩ (.bool true) e2
    simp [Leaves, settle, results, Tryd.results48, go_sem, q1]
    exact hbw.setCell (Nat.le_refl _) _
  · obtain rfl : false = kp := hq.symm.trans (unhide HKP)
    rw [hdr]
    rintro e w1 ⟨hk, rfl⟩
    have k1 : w1.heap[w.heap.size]? = _ := (hk.block w.heap.size (by omega)).trans hK
    have e2 : w1.cell? ⟨w.heap.size, 0, none⟩ = some (.bool false) := by simp [World.cell?, k1]
    have e3 : w1.frozen? ⟨w.heap.size, 0, none⟩ = false := by simp [World.frozen?, k1]
    have hbw : Below w.heap.size w w1 := hb.trans (hk.mono (by omega))
    clear hk k1 hb hM hK hlt
    go_wp2
    refine leaves_cons (f := 66) (args := #[.pointer (some ⟨w.heap.size, 0, none⟩)]) (by simp) (by simp [go_sem]) ?_
    refine (kcatch_panic ⟨w.heap.size, 0, none⟩ false u p [] _ e2 e3).mono ?_
    rintro e u' w'' ⟨rfl, rfl, rfl⟩
    have q1 := World.cell?_setCell_same w1 ⟨w.heap.size, 0, none⟩ (.bool false) e2
    simp [Leaves, settle, results, Tryd.results48, go_sem, q1]
    exact hbw.setCell (Nat.le_refl _) _
  · obtain rfl : false = kp := hq.symm.trans (unhide HKP)
    rw [hdr]
    rintro e w1 ⟨hk, rfl, a, f, x, hd, _⟩
    have e1 := hd.hh
    have k1 : w1.heap[w.heap.size]? = _ := (hk.block w.heap.size (by omega)).trans hK
    have e2 : w1.cell? ⟨w.heap.size, 0, none⟩ = some (.bool false) := by simp [World.cell?, k1]
    have e3 : w1.frozen? ⟨w.heap.size, 0, none⟩ = false := by simp [World.frozen?, k1]
    have hbw : Below w.heap.size w w1 := hb.trans (hk.mono (by omega))
    have hne2 : ((hh : Int) == 1) = false := beq_eq_false_iff_ne.2 (by omega)
    clear hd hk k1 hb hM hK hlt
    go_wp2
    refine leaves_cons (f := 66) (args := #[.pointer (some ⟨w.heap.size, 0, none⟩)]) (by simp) (by simp [go_sem]) ?_
    refine (kcatch_idle ⟨w.heap.size, 0, none⟩ _).mono ?_
    rintro e u' w'' ⟨rfl, rfl, rfl⟩
    have q1 := World.cell?_setCell_same w1 ⟨w.heap.size, 0, none⟩ (.bool false) e2
    simp [Leaves, settle, results, Tryd.results48, go_sem, q1]
    exact hbw.setCell (Nat.le_refl _) _
end Go.Proofs.YteflnddphpjahaaDoor
