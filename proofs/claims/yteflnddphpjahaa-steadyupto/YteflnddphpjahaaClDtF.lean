import Derived.Test.YteflnddphpjahaaClDtE
import Derived.Deep.DeepMust
import Derived.Lib.SliceRun
/-
  The table of names: Clone.
-/
set_option linter.unusedVariables false
set_option linter.unusedSimpArgs false
set_option maxRecDepth 100000
namespace Go.Proofs.Yteflnddphpjahaa.Dk
open Go.RowKit

def ClonePost (T : Sd.Tb) (w : World) (e : Ending) (w' : World) : Prop :=
  ∃ v', e = .returned v' ∧ w'.ownsRow 0 96 2 v' T.length (tbCells T) ∧ Below w.heap.size w w' ∧ ∀ g, v'.ownBlock = some g → w.heap.size ≤ g

set_option maxHeartbeats 1000000 in
theorem sclone_any (v : Value) (T : Sd.Tb) (w : World) (h : w.ownsRow 0 96 2 v T.length (tbCells T)) (hl : T.length ≤ 100000) :
    Calls Try.prog 73 #[v] w (ClonePost T w) := by
  rcases h.2 with ⟨rfl, hn⟩ | ⟨g, cap, cur, rfl, _, hg, hnc, hcm, hcs, htk⟩
  · have hnil := Lib.run_eql_slice_nil (P := Try.prog) w 51 96 none 0 0 0 0 Try.underlying51
    simp only [Option.isNone_none] at hnil
    go_enter Try.func73, Try.ntmps73
    go_wp2
    go_ret
    exact ⟨_, rfl, h, Below.refl _ _, fun g hg => by simp [Value.ownBlock] at hg⟩
  · have hnil := Lib.run_eql_slice_nil (P := Try.prog) w 51 96 (some ⟨g, 0, none⟩) T.length cap 0 0 Try.underlying51
    simp only [Option.isNone_some] at hnil
    by_cases h0 : T = []
    · subst h0
      simp only [List.length_nil] at hnil
      clear h hg hcs htk
      go_enter Try.func73, Try.ntmps73
      go_wp2
      go_ret
      refine ⟨_, rfl, ⟨rfl, .inr ⟨w.heap.size, 0, #[], rfl, Nat.zero_le _, heap_alloc_new w _, Nat.le_refl _, by unfold maxLen; omega, rfl, rfl⟩⟩, (Below.refl _ w).alloc (Nat.le_refl _) _, fun g' hg' => ?_⟩
      simp [Value.ownBlock] at hg'
      omega
    · obtain ⟨i0, hi, hz0, hz1, hz2⟩ := info_parts Try.info_entry
      have hpos : 0 < T.length := by
        rcases T with _ | ⟨a, b⟩
        · exact absurd rfl h0
        · simp
      have hlit := World.ownsRow_lit (base := w.heap.size) (e := 96) (size := 2) w #[] 0 (Nat.le_refl _) (by unfold maxLen; omega) (by rfl)
      have hsrc := (h.alloc (.cells #[] 96)).cells (g := g) rfl
      have HSRC := hide hsrc
      have HLIT := hide hlit
      clear hsrc hlit hg hnc hcm hcs htk h
      go_enter Try.func73, Try.ntmps73
      go_wp2_with (first
        | (at_builtin; go_must (refine wpList_append_keeps _ rfl (.tmp 5) (.tmp 6) 51 rfl w.heap.size 96 i0 _ 2 24 Try.underlying51 hi hz0 hz1 hz2 rfl (by decide) _ 0 [] rfl (unhide HLIT) ⟨g, 0, none⟩ T.length cap hpos (tbCells T) rfl (tb_len T) (unhide HSRC) (tb_one T) (by unfold maxLen; omega) (by omega) (by simp) ?_))
        | go_in)
      intro v3 w3 h3 hg3 hn3 _
      have hown : w3.ownsRow w.heap.size 96 2 v3 T.length (tbCells T) := by simpa using h3
      have hbel : Below w.heap.size w w3 := ((Below.refl _ w).alloc (Nat.le_refl _) _).grown hg3 (by simp) (fun k hk => by simp [Value.ownBlock] at hk; omega)
      clear h3 hg3 hn3
      go_wp2
      go_ret
      exact ⟨v3, rfl, own_zero hown, hbel, fun g' hg' => (hown.lt g' hg').1⟩

def TClonePost (T : Sd.Tb) (w : World) (e : Ending) (w' : World) : Prop :=
  ∃ v', e = .returned (.agg #[v']) ∧ w'.ownsRow 0 96 2 v' T.length (tbCells T) ∧ Below w.heap.size w w' ∧ ∀ g, v'.ownBlock = some g → w.heap.size ≤ g
set_option maxHeartbeats 1000000 in
theorem tclone_any (D o : Nat) (C : Array Value) (tD : TypeId) (v : Value) (T : Sd.Tb) (w : World) (h : TabIn w D o C tD v T) :
    Calls Try.prog 68 #[.pointer (some ⟨D, o, none⟩)] w (TClonePost T w) := by
  have hc := h.cell
  have hD : D < w.heap.size := lt_of_block h.blk
  have hr := fun o => sclone_any v T (w.alloc o) (h.row.alloc o) h.len
  obtain ⟨p, cap, rfl, _⟩ := own_slice h.row
  clear h
  go_enter Try.func68, Try.ntmps68
  go_wp2_with fail
  refine (hr _).mono ?_
  rintro e w1 ⟨v', rfl, h1, hb, hn⟩
  have H := hide (And.intro h1 (And.intro hb hn))
  have hrb : w1.heap[w.heap.size]? = some (.cells #[.slice none 0 0] 53 (0, 0)) := (hb.block w.heap.size (by simp)).trans (heap_alloc_new w _)
  have hrc : w1.cell? ⟨w.heap.size, 0, none⟩ = some (.slice none 0 0) := by rw [cell_of_row w1 _ 0 _ _ _ hrb]; rfl
  have hrf : w1.frozen? ⟨w.heap.size, 0, none⟩ = false := by simp [World.frozen?, hrb]
  obtain ⟨p', cap', rfl, _⟩ := own_slice h1
  clear h1 hb hn hr hrb
  go_wp2
  have hcell : (w1.setCell ⟨w.heap.size, 0, none⟩ (.slice p' T.length cap')).cell? ⟨w.heap.size, 0, none⟩ = some (.slice p' T.length cap') := World.cell?_setCell_same _ _ _ hrc
  obtain ⟨h1, hb, hn⟩ := unhide H
  refine bodyPost_ret (v := .agg #[.slice p' T.length cap']) (by simp [results, Try.results68, go_sem, hcell]) rfl ⟨_, rfl, ?_, ?_, fun g hg => ?_⟩
  · refine ownsRow_setCell_other h1 (fun hq => ?_) _
    have := hn _ hq
    simp at this
    omega
  · exact (((Below.refl _ w).alloc (Nat.le_refl _) _).trans (hb.mono (by simp))).setCell (Nat.le_refl _) _
  · have := hn g hg
    simp at this
    omega
end Go.Proofs.Yteflnddphpjahaa.Dk
