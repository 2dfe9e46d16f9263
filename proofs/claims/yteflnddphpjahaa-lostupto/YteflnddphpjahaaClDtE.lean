import Derived.Test.YteflnddphpjahaaClDtD
import Derived.OneCell
import Derived.Deep.DeepMust
/-
  The table of names at a place of a block: Add, Set.
-/
set_option linter.unusedVariables false
set_option linter.unusedSimpArgs false
set_option maxRecDepth 100000
namespace Go.Proofs.Yteflnddphpjahaa.Dk
open Go.RowKit

/-- What a change of a table leaves: the new table at the same place. -/
structure TabNew (w w' : World) (D o : Nat) (C : Array Value) (tD : TypeId) (v v' : Value) (T' : Sd.Tb) : Prop where
  blk : w'.heap[D]? = some (.cells (C.setIfInBounds o v') tD (0, 0))
  row : w'.ownsRow 0 96 2 v' T'.length (tbCells T')
  kept : Kept w w' (fun k => k ≠ D ∧ v.ownBlock ≠ some k)
  new : v'.ownBlock = v.ownBlock ∨ ∃ g, v'.ownBlock = some g ∧ w.heap.size ≤ g

set_option maxHeartbeats 1000000 in
theorem add_any (D o : Nat) (C : Array Value) (tD : TypeId) (v : Value) (T : Sd.Tb) (y : ByteArray) (f : Nat) (w : World) (h : TabIn w D o C tD v T) (hne : v.ownBlock ≠ some D) :
    Calls Try.prog 75 #[.pointer (some ⟨D, o, none⟩), .string y, fptr f] w fun e w' => e = .returned (.bool (!Sd.thas T y)) ∧ ∃ v', TabNew w w' D o C tD v v' (if Sd.thas T y = true then T else Sd.tins T y f) := by
  have hoC : o < C.size := (Array.getElem?_eq_some_iff.1 h.at_).1
  cases hh : Sd.thas T y with
  | true =>
    have HH := hide hh
    have HTAB := hide h
    clear hh h
    go_enter Try.func75, Try.ntmps75
    go_wp2_with fail
    refine (place_any D o C tD v T y w (unhide HTAB)).mono ?_
    rintro e w' ⟨rfl, hb⟩
    rw [unhide HH]
    go_wp2
    go_ret
    have hn := (unhide HTAB).below hb
    refine ⟨rfl, v, ?_, ?_, Kept.below hb _, Or.inl rfl⟩
    · rw [hn.blk]
      have : C.setIfInBounds o v = C := by
        have hv := (Array.getElem?_eq_some_iff.1 hn.at_).2
        rw [← hv]; simp [Array.setIfInBounds, hoC]
      rw [this]
    · exact hn.row
  | false =>
    have HH := hide hh
    have HTAB := hide h
    have hl := h.len
    clear hh h
    go_enter Try.func75, Try.ntmps75
    go_wp2_with fail
    refine (place_any D o C tD v T y w (unhide HTAB)).mono ?_
    rintro e w1 ⟨rfl, hb⟩
    rw [unhide HH]
    have hn := (unhide HTAB).below hb
    have hu := hn.blk
    have ho := hn.row
    have hc := hn.cell
    have hD1 : D < w1.heap.size := lt_of_block hu
    have hcs : (w1.alloc (.cells #[.string y, fptr f] 96)).heap[D]? = some (.cells C tD (0, 0)) := by rw [Below.heap_alloc _ _ _ hD1]; exact hu
    have HCS := hide hcs
    have HO := hide ho
    obtain ⟨p, cap, rfl, _⟩ := own_slice ho
    have hlow := Sd.tlow_le T y
    clear hu ho hcs hn
    unfold fptr
    go_wp2_with fail
    refine (insert_any 0 w1.heap.size (.slice p T.length cap) T (Sd.tlow T y) y f _ hlow (by simp) ((unhide HO).alloc _) hl (fun hq => by have := ((unhide HO).lt _ hq).2; omega) (heap_alloc_new w1 _)).mono ?_
    rintro e w2 ⟨v', rfl, ho2, hg2, hnw⟩
    have htb : w2.heap[D]? = some (.cells C tD (0, 0)) := by
      rw [hg2.block D (by simp; omega) (fun hq => hne hq.symm)]; exact unhide HCS
    have hc2 : w2.cell? ⟨D, o, none⟩ = some (.slice p T.length cap) := by rw [cell_of_row w2 D o _ _ _ htb]; exact (unhide HTAB).at_
    have hf2 : w2.frozen? ⟨D, o, none⟩ = false := by simp [World.frozen?, htb]
    obtain ⟨p', cap', rfl, _⟩ := own_slice ho2
    have HTB := hide htb
    have HNW := hide hnw
    clear htb hc hnw
    go_wp2
    go_ret
    have hkk : Kept w w2 (fun k => k ≠ D ∧ (Value.slice p T.length cap).ownBlock ≠ some k) :=
      (Kept.below hb _).trans (((Kept.refl w1 _).alloc _).trans (Kept.grown hg2 (fun k hk => hk.2)))
    have hnew : (Value.slice p' (T.length + 1) cap').ownBlock = (Value.slice p T.length cap).ownBlock ∨ ∃ g, (Value.slice p' (T.length + 1) cap').ownBlock = some g ∧ w.heap.size ≤ g := by
      rcases unhide HNW with e | e
      · exact Or.inl e
      · exact Or.inr ⟨_, e, by have := hb.size; simp; omega⟩
    refine ⟨rfl, .slice p' (T.length + 1) cap', ?_, ?_, hkk.setCell (fun hk => hk.1 rfl) _, hnew⟩
    · rw [heap_setCell_same w2 D o _ _ _ (unhide HTB)]
    · rw [Sd.tins_len]
      refine ownsRow_setCell_other ho2 (fun hq => ?_) _
      rcases unhide HNW with e | e
      · rw [e] at hq; exact hne hq
      · rw [e] at hq
        simp at hq
        omega

theorem own_set {w : World} {B e size n g j cap : Nat} {p : Option Addr} {xs : List Value} (u : Value) (h : w.ownsRow B e size (.slice (some ⟨g, 0, none⟩) n cap) n xs) (hj : j < xs.length) :
    (w.setCell ⟨g, j, none⟩ u).ownsRow B e size (.slice (some ⟨g, 0, none⟩) n cap) n (xs.set j u) := by
  obtain ⟨h1, h2⟩ := h
  refine ⟨by rw [List.length_set]; exact h1, ?_⟩
  rcases h2 with ⟨h2, _⟩ | ⟨g', cap', cur, hv, hB, hg, q1, q2, q3, q4⟩
  · cases h2
  · injection hv with hv1 hv2 hv3
    injection hv1 with hv1
    injection hv1 with hv1
    subst hv1 hv3
    refine .inr ⟨g, cap, _, rfl, hB, heap_setCell_same w g j _ _ u hg, q1, q2, by rw [Array.size_setIfInBounds]; exact q3, ?_⟩
    rw [Array.toList_setIfInBounds, List.take_set, q4]
theorem tb_set (T : Sd.Tb) : ∀ (i : Nat) (hi : i < T.length) (y : ByteArray) (f : Nat), (T[i]).1 = y → (tbCells T).set (i * 2 + 1) (fptr f) = tbCells (T.set i (y, f)) := by
  induction T with
  | nil => intro i hi; simp at hi
  | cons p t ih =>
    intro i hi y f hy
    have e : tbCells (p :: t) = .string p.1 :: fptr p.2 :: tbCells t := by simp [tbCells]
    rw [e]
    cases i with
    | zero =>
      have hy : p.1 = y := hy
      subst hy
      simp [tbCells]
    | succ i =>
      have h1 := ih i (by simpa using hi) y f (by simpa using hy)
      rw [show (i + 1) * 2 + 1 = i * 2 + 1 + 1 + 1 by omega, List.set_cons_succ, List.set_cons_succ, h1]
      simp [tbCells]

set_option maxHeartbeats 1000000 in
theorem set_any (D o : Nat) (C : Array Value) (tD : TypeId) (v : Value) (T : Sd.Tb) (y : ByteArray) (f : Nat) (w : World) (h : TabIn w D o C tD v T) (hne : v.ownBlock ≠ some D) :
    Calls Try.prog 70 #[.pointer (some ⟨D, o, none⟩), .string y, fptr f] w fun e w' => e = .returned (.tuple #[]) ∧ ∃ v', TabNew w w' D o C tD v v' (Sd.tset T y f) := by
  have hoC : o < C.size := (Array.getElem?_eq_some_iff.1 h.at_).1
  have hadd := add_any D o C tD v T y f w h hne
  unfold fptr at hadd ⊢
  cases hh : Sd.thas T y with
  | false =>
    have e0 : Sd.tset T y f = Sd.tins T y f := by unfold Sd.tset; rw [hh]; rfl
    rw [e0]
    rw [hh] at hadd
    clear hh h e0
    go_enter Try.func70, Try.ntmps70
    go_wp2_with fail
    refine hadd.mono ?_
    rintro e w1 ⟨rfl, v', hn⟩
    clear hadd
    go_wp2
    exact bodyPost_ret (v := .tuple #[]) (results_none rfl _ _ _) rfl ⟨rfl, v', hn⟩
  | true =>
    obtain ⟨hj, e1, e2⟩ := Sd.tget_at h.srt hh
    have e0 : Sd.tset T y f = T.set (Sd.tlow T y) (y, f) := by unfold Sd.tset; rw [hh]; rfl
    rw [e0]
    rw [hh] at hadd
    have HH := hide hh
    have HTAB := hide h
    have hl := h.len
    clear hh h e0 e2
    go_enter Try.func70, Try.ntmps70
    go_wp2_with fail
    refine hadd.mono ?_
    rintro e w1 ⟨rfl, v', hn⟩
    clear hadd
    have hin : TabIn w1 D o (C.setIfInBounds o v') tD v' T := ⟨hn.blk, by simp [hoC], hn.row, (unhide HTAB).srt, hl⟩
    have hne1 : v'.ownBlock ≠ some D := fun hq => by
      rcases hn.new with e | ⟨g, e, hg⟩
      · rw [e] at hq; exact hne hq
      · rw [e] at hq
        have hq : g = D := Option.some.inj hq
        have := lt_of_block (unhide HTAB).blk
        omega
    have HN := hide hn
    have HIN := hide hin
    clear hn hin
    go_wp2_with fail
    refine (place_any D o _ tD v' T y w1 (unhide HIN)).mono ?_
    rintro e w2 ⟨rfl, hb⟩
    rw [unhide HH]
    have hin2 := (unhide HIN).below hb
    have hc := hin2.cell
    have hrow := hin2.row
    have hblk := hin2.blk
    have HROW := hide hrow
    have HBLK := hide hblk
    obtain ⟨p, cap, rfl, he⟩ := ents_of_own hrow
    obtain ⟨g, hp, c0, c1⟩ := he (Sd.tlow T y) hj
    subst hp
    have hgf : w2.frozen? ⟨g, Sd.tlow T y * 2 + 1, none⟩ = false := by
      rcases hrow.2 with ⟨hv, _⟩ | ⟨g', cap', cur, hv, _, hgg, _⟩
      · cases hv
      · injection hv with hv _ _
        injection hv with hv
        injection hv with hv
        subst hv
        simp [World.frozen?, hgg]
    have HE1 := hide e1
    have hgD : g ≠ D := fun e => hne1 (by rw [e]; rfl)
    generalize hI0 : Sd.tlow T y = i at hj c0 c1 hgf HE1 ⊢
    clear he hrow hblk hin2 e1
    have HI := hide hI0
    clear hI0
    unfold fptr at c1
    go_wp2
    have hfin : TabNew w (w2.setCell ⟨g, i * 2 + 1, none⟩ (.pointer (some ⟨f, 0, none⟩))) D o C tD v (.slice (some ⟨g, 0, none⟩) T.length cap) (T.set i (y, f)) := by
      have hn := unhide HN
      refine ⟨?_, ?_, ?_, hn.new⟩
      · rw [Below.heap_setCell w2 _ _ D (fun e => hgD e.symm)]; exact unhide HBLK
      · rw [List.length_set, ← tb_set T i hj y f (unhide HE1)]
        exact own_set (p := none) _ (unhide HROW) (by rw [tb_len]; omega)
      · refine (hn.kept.trans (Kept.below hb _)).setCell' (fun k hk ho hkg => ?_) _
        rcases hn.new with e | ⟨g', e, hg'⟩
        · exact ho.2 (by rw [← e, hkg]; rfl)
        · have : g = g' := Option.some.inj e
          have hkg : k = g := hkg
          omega
    have HFIN := hide hfin
    clear hfin
    exact bodyPost_end (results_none rfl _ _ _) rfl ⟨rfl, .slice (some ⟨g, 0, none⟩) T.length cap, by rw [unhide HI]; exact unhide HFIN⟩
end Go.Proofs.Yteflnddphpjahaa.Dk
