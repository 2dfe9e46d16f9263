import Derived.Test.YteflnddphpjahaaRows
import Derived.Test.YteflnddphpjahaaClStG
import Derived.WalkKit
import Derived.ProofKit
import Derived.OpenShut
import Derived.ShutString
import Derived.JoinedCond
/-
  Steady: the acts and the numbers that come in.
-/
set_option linter.unusedVariables false
set_option linter.unusedSimpArgs false
set_option maxRecDepth 100000
namespace Go.Proofs.Yteflnddphpjahaa.steadyU
open Go.ChangeShapes Go.WideShapes Go.ChangeAt Go.RowKit
open Go.ChangeMaps (open_string shut_string)

theorem laidOut : laidOutB Try.prog = true := by kernel_rfl
theorem cellsInt : Try.prog.cellsOf 3 = 1 := by kernel_rfl
theorem cellsAct : Try.prog.cellsOf 35 = 4 := by kernel_rfl
theorem i64_wf {x : Int} (h : (Lit.int .i64 x).wf = true) : -9223372036854775808 ≤ x ∧ x ≤ 9223372036854775807 := by
  simpa [Lit.wf, IntKind.min, IntKind.max, IntKind.signed, IntKind.bits] using h

theorem actFields : ∃ f0 f1 f2 f3 : Field, Try.prog.underlying 35 = some (.struct #[f0, f1, f2, f3]) ∧ f0.type = 3 ∧ f1.type = 3 ∧ f2.type = 3 ∧ f3.type = 3 ∧ f0.offset = 0 ∧ f1.offset = 1 ∧ f2.offset = 2 ∧ f3.offset = 3 :=
  ⟨_, _, _, _, Try.underlying35, rfl, rfl, rfl, rfl, rfl, rfl, rfl, rfl⟩

section
variable {H : Type} {enc : TypeId × Value → H} {w : World}

theorem act_one {fuel : Nat} {cs : List Value} {x : DataW H × List MemPlace} (h : DataW.trod enc Try.prog w 0 (fun _ => true) true fuel 35 cs = some x) :
    ∃ k a b c, cs = [.int .i64 k, .int .i64 a, .int .i64 b, .int .i64 c] ∧ Dk.i64 k ∧ Dk.i64 a ∧ Dk.i64 b ∧ Dk.i64 c ∧ Rows.uptoBulk x.1 = 5 := by
  obtain ⟨f0, f1, f2, f3, hu, t0, t1, t2, t3, o0, o1, o2, o3⟩ := actFields
  obtain ⟨xs, n, _, rfl, hl, hlen, hf⟩ := DataW.trod_struct hu h
  rw [cellsAct] at hl
  match xs, hlen with
  | [y0, y1, y2, y3], _ =>
    have g0 := hf 0 f0 rfl
    have g1 := hf 1 f1 rfl
    have g2 := hf 2 f2 rfl
    have g3 := hf 3 f3 rfl
    rw [t0, o0, cellsInt] at g0
    rw [t1, o1, cellsInt] at g1
    rw [t2, o2, cellsInt] at g2
    rw [t3, o3, cellsInt] at g3
    obtain ⟨k, e0, rfl, w0⟩ := DataW.trod_int Try.underlying3 (x := y0) (by simpa using g0)
    obtain ⟨a, e1, rfl, w1⟩ := DataW.trod_int Try.underlying3 (x := y1) (by simpa using g1)
    obtain ⟨b, e2, rfl, w2⟩ := DataW.trod_int Try.underlying3 (x := y2) (by simpa using g2)
    obtain ⟨c, e3, rfl, w3⟩ := DataW.trod_int Try.underlying3 (x := y3) (by simpa using g3)
    match cs, hl with
    | [c0, c1, c2, c3], _ =>
      simp at e0 e1 e2 e3
      subst e0 e1 e2 e3
      exact ⟨k, a, b, c, rfl, i64_wf w0, i64_wf w1, i64_wf w2, i64_wf w3, by simp [Rows.uptoBulk, Rows.uptoBulkAll]⟩

theorem cells4 {a : Addr} {v0 v1 v2 v3 : Value} (h : w.cells? 0 a 4 = some [v0, v1, v2, v3]) : w.cell? (a.add 0) = some v0 ∧ w.cell? (a.add 1) = some v1 ∧ w.cell? (a.add 2) = some v2 ∧ w.cell? (a.add 3) = some v3 := by
  unfold World.cells? at h
  rw [if_pos (Nat.zero_le _)] at h
  have e : List.range 4 = [0, 1, 2, 3] := by decide
  rw [e] at h
  simp only [List.mapM_cons, List.mapM_nil] at h
  cases h0 : w.cell? (a.add 0) with
  | none => simp [h0] at h
  | some x0 =>
    cases h1 : w.cell? (a.add 1) with
    | none => simp [h0, h1] at h
    | some x1 =>
      cases h2 : w.cell? (a.add 2) with
      | none => simp [h0, h1, h2] at h
      | some x2 =>
        cases h3 : w.cell? (a.add 3) with
        | none => simp [h0, h1, h2, h3] at h
        | some x3 =>
          simp [h0, h1, h2, h3] at h
          obtain ⟨rfl, rfl, rfl, rfl⟩ := h
          exact ⟨rfl, rfl, rfl, rfl⟩

/-- A cell that reads lies at an address of no spot. -/
theorem no_spot {a : Addr} {v : Value} (h : w.cell? a = some v) : a.spot = none ∧ a.block < w.heap.size := by
  refine ⟨?_, World.block_lt_of_cell? w _ h⟩
  unfold World.cell? at h
  split at h
  · split at h
    · cases h
    · rename_i hn
      cases hs : a.spot with
      | none => rfl
      | some z => simp [hs] at hn
  · cases h

theorem bulk_five (l : List (DataW H × List MemPlace)) (h : ∀ y ∈ l, Rows.uptoBulk y.1 = 5) : Rows.uptoBulkAll (l.map (·.1)) = 5 * l.length := by
  induction l with
  | nil => simp [Rows.uptoBulkAll]
  | cons y r ih =>
    have h1 := h y (.head _)
    have h2 := ih fun z hz => h z (.tail _ hz)
    simp only [List.map_cons, Rows.uptoBulkAll, List.length_cons, h1, h2]
    omega

theorem acts_open {fuel : Nat} {p : Option Addr} {len cap : Nat} {x : DataW H × List MemPlace} (h : DataW.trod enc Try.prog w 0 (fun _ => true) true fuel 29 (Value.slice p len cap).cells.toList = some x) :
    Dk.ActsAt w p len ∧ 5 * len ≤ Rows.uptoBulk x.1 := by
  rcases DataW.trod_slice Try.underlying29 h with ⟨hcs, hx⟩ | ⟨a, len', cap', elems, rest, n, _, hcs, hx, _, hl, hm, hlen, hel, _, _⟩
  · simp [Value.cells] at hcs
    obtain ⟨rfl, rfl, rfl⟩ := hcs
    exact ⟨fun i hi => by omega, by omega⟩
  · simp [Value.cells] at hcs
    obtain ⟨rfl, rfl, rfl⟩ := hcs
    rw [cellsAct] at hel
    have each : ∀ i, i < len → ∃ y k b c d, elems[i]? = some y ∧ Rows.uptoBulk y.1 = 5 ∧ w.cells? 0 (a.add (i * 4)) 4 = some [.int .i64 k, .int .i64 b, .int .i64 c, .int .i64 d] ∧ Dk.i64 k ∧ Dk.i64 b ∧ Dk.i64 c ∧ Dk.i64 d := by
      intro i hi
      have hE := hel i hi
      have hy : elems[i]? = some elems[i] := List.getElem?_eq_getElem (by omega)
      rw [hy, Option.bind_eq_some_iff] at hE
      obtain ⟨cs, hc, ht⟩ := hE
      obtain ⟨k, b, c, d, rfl, i1, i2, i3, i4, hb⟩ := act_one ht
      exact ⟨_, k, b, c, d, hy, hb, hc, i1, i2, i3, i4⟩
    refine ⟨fun i hi => ?_, ?_⟩
    · obtain ⟨y, k, b, c, d, _, _, hc, i1, i2, i3, i4⟩ := each i hi
      obtain ⟨_, _, _, _, _, _, _, hc0, _⟩ := each 0 (by omega)
      obtain ⟨z0, _, _, _⟩ := cells4 hc0
      obtain ⟨c0, c1, c2, c3⟩ := cells4 hc
      obtain ⟨g, o, sp⟩ := a
      have hs := no_spot z0
      simp [Addr.add] at hs
      obtain ⟨rfl, hg⟩ := hs
      have ea : ∀ m q, ((⟨g, o, none⟩ : Addr).add m).add q = ⟨g, o + m + q, none⟩ := by
        intro m q
        unfold Addr.add
        split <;> split <;> simp_all
      rw [ea] at c0 c1 c2 c3
      exact ⟨g, o, k, b, c, d, rfl, hg, c0, c1, c2, c3, i1, i2, i3, i4⟩
    · have h5 := bulk_five elems fun y hy => by
        obtain ⟨i, hi, rfl⟩ := List.getElem_of_mem hy
        obtain ⟨y', _, _, _, _, hy', hb, _⟩ := each i (by omega)
        rw [List.getElem?_eq_getElem hi] at hy'
        obtain rfl := Option.some.inj hy'
        exact hb
      rw [hx]
      simp only [Rows.uptoBulk, h5, hlen]
      omega

theorem keep_open {fuel : Nat} {p : Option Addr} {len cap : Nat} {x : DataW H × List MemPlace} (h : DataW.trod enc Try.prog w 0 (fun _ => true) true fuel 30 (Value.slice p len cap).cells.toList = some x) :
    ∃ K, Dk.KeepAt w w.heap.size p len K := by
  rcases open_ints Try.underlying30 Try.underlying3 cellsInt h with ⟨hcs, hx⟩ | ⟨a, len', cap', zs, hcs, _, hl, hm, hz, hx, hcell, hwz⟩
  · simp [Value.cells] at hcs
    obtain ⟨rfl, rfl, rfl⟩ := hcs
    exact ⟨fun _ => 0, fun j hj => by omega, by omega⟩
  · simp [Value.cells] at hcs
    obtain ⟨rfl, rfl, rfl⟩ := hcs
    simp only [if_true] at hz
    refine ⟨fun j => zs.getD j 0, fun j hj => ?_, by unfold maxLen at hm; omega⟩
    have hc := hcell j (by omega)
    have h0 := no_spot (hcell 0 (by omega))
    obtain ⟨g, o, sp⟩ := a
    simp [Addr.add] at h0
    obtain ⟨rfl, hg⟩ := h0
    refine ⟨g, o, rfl, ?_, Or.inl hg⟩
    have ea : (⟨g, o, none⟩ : Addr).add j = ⟨g, o + j, none⟩ := by
      unfold Addr.add
      split <;> simp_all
    rw [← ea]
    exact hc
end
end Go.Proofs.Yteflnddphpjahaa.steadyU
