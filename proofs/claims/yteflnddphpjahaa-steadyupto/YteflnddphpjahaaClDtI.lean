import Derived.Test.YteflnddphpjahaaClDtH
import Derived.Test.YteflnddphpjahaaClDtE
/-
  The table of names: Remove.
-/
set_option linter.unusedVariables false
set_option linter.unusedSimpArgs false
set_option maxRecDepth 100000
namespace Go.Proofs.Yteflnddphpjahaa.Dk
open Go.RowKit

set_option maxHeartbeats 1000000 in
theorem remove_any (D o : Nat) (C : Array Value) (tD : TypeId) (v : Value) (T : Sd.Tb) (y : ByteArray) (w : World) (h : TabIn w D o C tD v T) (hne : v.ownBlock ≠ some D) :
    Calls Try.prog 69 #[.pointer (some ⟨D, o, none⟩), .string y] w fun e w' => e = .returned (.tuple #[]) ∧ ∃ v', TabNew w w' D o C tD v v' (Sd.trem T y) := by
  have hoC : o < C.size := (Array.getElem?_eq_some_iff.1 h.at_).1
  cases hh : Sd.thas T y with
  | false =>
    have e0 : Sd.trem T y = T := by unfold Sd.trem; rw [hh]; rfl
    rw [e0]
    have HH := hide hh
    have HTAB := hide h
    clear hh h e0
    go_enter Try.func69, Try.ntmps69
    go_wp2_with fail
    refine (place_any D o C tD v T y w (unhide HTAB)).mono ?_
    rintro e w' ⟨rfl, hb⟩
    rw [unhide HH]
    go_wp2
    have hn := (unhide HTAB).below hb
    refine bodyPost_end (results_none rfl _ _ _) rfl ⟨rfl, v, ?_, hn.row, Kept.below hb _, Or.inl rfl⟩
    rw [hn.blk]
    have : C.setIfInBounds o v = C := by
      have hv := (Array.getElem?_eq_some_iff.1 hn.at_).2
      rw [← hv]; simp [Array.setIfInBounds, hoC]
    rw [this]
  | true =>
    obtain ⟨hj, _, _⟩ := Sd.tget_at h.srt hh
    have e0 : Sd.trem T y = T.eraseIdx (Sd.tlow T y) := by unfold Sd.trem; rw [hh]; rfl
    rw [e0]
    have HH := hide hh
    have HTAB := hide h
    have hl := h.len
    clear hh h e0
    go_enter Try.func69, Try.ntmps69
    go_wp2_with fail
    refine (place_any D o C tD v T y w (unhide HTAB)).mono ?_
    rintro e w1 ⟨rfl, hb⟩
    rw [unhide HH]
    have hn := (unhide HTAB).below hb
    have hc := hn.cell
    rcases hn.row.2 with ⟨_, h0⟩ | ⟨g, cap, cur, rfl, _, hgg, hnc, hcm, hcs, htk⟩
    · omega
    · have hgD : some D ≠ (Value.slice (some ⟨g, 0, none⟩) T.length cap).ownBlock := fun e => hne e.symm
      generalize hI : Sd.tlow T y = i at hj ⊢
      have hdel := delete_any g cap i cur T w1 hj hnc hcm hl hgg hcs htk
      have HB := hide hn.blk
      have HBB := hide hb
      have hDw : D < w1.heap.size := lt_of_block hn.blk
      have HI := hide hI
      clear hn hgg hcs htk hI hb
      go_wp2_with fail
      refine hdel.mono ?_
      rintro e w2 ⟨rfl, ho2, hg2⟩
      have htb : w2.heap[D]? = some (.cells C tD (0, 0)) := (hg2.block D hDw (fun e => hgD e)).trans (unhide HB)
      have hc2 : w2.cell? ⟨D, o, none⟩ = some (.slice (some ⟨g, 0, none⟩) T.length cap) := by rw [cell_of_row w2 D o _ _ _ htb]; exact (unhide HTAB).at_
      have hf2 : w2.frozen? ⟨D, o, none⟩ = false := by simp [World.frozen?, htb]
      have H := hide (And.intro ho2 (And.intro hg2 htb))
      clear ho2 hg2 htb hdel hc
      go_wp2
      obtain ⟨ho2, hg2, htb⟩ := unhide H
      refine bodyPost_end (results_none rfl _ _ _) rfl ⟨rfl, .slice (some ⟨g, 0, none⟩) (T.length - 1) cap, ?_, ?_, ?_, Or.inl rfl⟩
      · rw [heap_setCell_same w2 D o _ _ _ htb]
      · rw [unhide HI, List.length_eraseIdx, if_pos hj]
        exact ownsRow_setCell_other ho2 (fun e => hgD e.symm) _
      · exact ((Kept.below (unhide HBB) _).trans (Kept.grown hg2 (fun k hk => hk.2))).setCell (fun hk => hk.1 rfl) _
end Go.Proofs.Yteflnddphpjahaa.Dk
