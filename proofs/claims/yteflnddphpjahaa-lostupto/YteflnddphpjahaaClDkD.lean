import Derived.Test.YteflnddphpjahaaClDkC
/-
  A disk: SyncDir.
-/
set_option linter.unusedVariables false
set_option linter.unusedSimpArgs false
set_option maxRecDepth 100000
namespace Go.Proofs.Yteflnddphpjahaa.Dk
open Go.RowKit

def MsPost (D : Nat) (q : Int) (vn : Value) (l : Int) (T : Sd.Tb) (w : World) (e : Ending) (w' : World) : Prop :=
  e = .returned (.tuple #[]) ∧ ∃ vs', w'.heap[D]? = some (.cells (dkCells q vn vs' (.slice none 0 0) l) 59 (0, 0)) ∧
    w'.ownsRow 0 96 2 vs' T.length (tbCells T) ∧ Kept w w' (fun k => k ≠ D) ∧ ∀ g, vs'.ownBlock = some g → w.heap.size ≤ g
set_option maxHeartbeats 1000000 in
theorem makeSafe_any (D : Nat) (q : Int) (vn vs vc : Value) (l : Int) (T : Sd.Tb) (w : World) (h : TabIn w D 1 (dkCells q vn vs vc l) 59 vn T) (hvs : ∃ p n c, vs = .slice p n c) (hvc : ∃ p n c, vc = .slice p n c) :
    Calls Try.prog 53 #[.pointer (some ⟨D, 0, none⟩)] w (MsPost D q vn l T w) := by
  have hcl := tclone_any D 1 (dkCells q vn vs vc l) 59 vn T w h
  obtain ⟨p2, n2, c2, rfl⟩ := hvs
  obtain ⟨p3, n3, c3, rfl⟩ := hvc
  have HB := hide h.blk
  clear h
  go_enter Try.func53, Try.ntmps53
  go_wp2_with fail
  refine hcl.mono ?_
  rintro e w1 ⟨v', rfl, h1, hb, hn⟩
  have hblk := (hb.block D (lt_of_block (unhide HB))).trans (unhide HB)
  have c2' : w1.cell? ⟨D, 2, none⟩ = some (.slice p2 n2 c2) := by rw [cell_of_row w1 _ 2 _ _ _ hblk]; rfl
  have c3' : w1.cell? ⟨D, 3, none⟩ = some (.slice p3 n3 c3) := by rw [cell_of_row w1 _ 3 _ _ _ hblk]; rfl
  have f2' : w1.frozen? ⟨D, 2, none⟩ = false := by simp [World.frozen?, hblk]
  have f3' : w1.frozen? ⟨D, 3, none⟩ = false := by simp [World.frozen?, hblk]
  obtain ⟨p', c', rfl, _⟩ := own_slice h1
  have H := hide (And.intro h1 (And.intro hb (And.intro hn hblk)))
  clear hcl h1 hb hn hblk
  go_wp2
  obtain ⟨h1, hb, hn, hblk⟩ := unhide H
  have hDw : D < w.heap.size := lt_of_block (unhide HB)
  refine bodyPost_end (results_none rfl _ _ _) rfl ⟨rfl, .slice p' T.length c', ?_, ?_, ?_, hn⟩
  · have e1 := heap_setCell_same w1 D 2 _ _ (.slice p' T.length c') hblk
    rw [dk_set2] at e1
    have e2 := heap_setCell_same _ D 3 _ _ (.slice none 0 0) e1
    rw [dk_set3] at e2
    exact e2
  · refine ownsRow_setCell_other (ownsRow_setCell_other h1 (fun e => ?_) _) (fun e => ?_) _
    · have := hn _ e
      simp at this; omega
    · have := hn _ e
      simp at this; omega
  · exact ((Kept.below hb _).setCell (fun hk => hk rfl) _).setCell (fun hk => hk rfl) _

def SdPost (B D : Nat) (s : Sk) (F : Nat → Fl) (vn : Value) (l : Int) (vb : Nat → Value) (w : World) (e : Ending) (w' : World) : Prop :=
  e = .returned (.int .i64 0) ∧ Below B w w' ∧ ∃ vs', DiskAt w' B D { s with safe := s.names, chs := [] } F vn vs' (.slice none 0 0) l vb
theorem sk_has_safe {s : Sk} {f : Nat} (h : ({ s with safe := s.names, chs := [] } : Sk).has f) : s.has f := by
  rcases h with h | h | ⟨c, hc, _⟩
  · exact Or.inl h
  · exact Or.inl h
  · cases hc
set_option maxHeartbeats 1000000 in
theorem syncDir_any (B D : Nat) (s : Sk) (F : Nat → Fl) (vn vs vc : Value) (l : Int) (vb : Nat → Value) (w : World) (h : DiskAt w B D s F vn vs vc l vb) (hl : s.names.length ≤ 100000) :
    Calls Try.prog 35 #[.pointer (some ⟨D, 0, none⟩)] w (SdPost B D s F vn l vb w) := by
  have HD := hide h
  have hop := operates_any D s.quota vn vs vc l w h.blk
  have hms := makeSafe_any D s.quota vn vs vc l s.names w (h.tabN hl) (by obtain ⟨p, c, e, _⟩ := own_slice h.rs; exact ⟨p, _, c, e⟩) (by obtain ⟨p, c, e, _⟩ := own_slice h.rc; exact ⟨p, _, c, e⟩)
  clear h
  go_enter Try.func35, Try.ntmps35
  go_wp2_with fail
  refine hop.mono ?_
  rintro e w0 ⟨rfl, rfl⟩
  go_wp2_with fail
  refine hms.mono ?_
  rintro e w1 ⟨rfl, vs', hblk, hrow, hk, hn⟩
  have H := hide (And.intro hblk (And.intro hrow (And.intro hk hn)))
  clear hms hop hblk hrow hk hn
  go_wp2
  go_ret
  obtain ⟨hblk, hrow, hk, hn⟩ := unhide H
  have hd := unhide HD
  have hBD := hd.ge
  have hDw := lt_of_block hd.blk
  refine ⟨rfl, hk.toBelow (by omega) (fun k hk' => by omega), vs', ⟨hBD, hblk, ?_, own_base hrow (fun g hg => by have := hn g hg; omega), World.ownsRow_nil _ _ _ _, hd.sn, hd.sn, fun g hg e => ?_, fun f hf => ?_, fun f f' hf hf' => hd.fapart f f' (sk_has_safe hf) (sk_has_safe hf')⟩⟩
  · refine own_kept hd.rn hk (fun g hg => ?_)
    obtain ⟨c, hc, _⟩ := own_blk hd.rn hg
    exact blk_ne hc hd.blk (by decide)
  · have := hn g e
    have := own_lt hd.rn hg
    omega
  · have hf' := hd.files f (sk_has_safe hf)
    refine hf'.kept hk (blk_ne hf'.blk hd.blk (by decide)) (fun g hg => ?_)
    obtain ⟨c, hc⟩ := hf'.own hg
    exact blk_ne hc hd.blk (by decide)
theorem fsyncDir_any (B D : Nat) (s : Sk) (F : Nat → Fl) (vn vs vc : Value) (l : Int) (vb : Nat → Value) (w : World) (h : DiskAt w B D s F vn vs vc l vb) (hl : s.names.length ≤ 100000) :
    Calls Try.prog 18 #[.pointer (some ⟨D, 0, none⟩)] w (SdPost B D s F vn l vb w) := by
  have hc := syncDir_any B D s F vn vs vc l vb w h hl
  clear h hl
  go_enter Try.func18, Try.ntmps18
  go_wp2_with fail
  refine hc.mono ?_
  rintro e w1 ⟨rfl, h⟩
  have H := hide h
  clear h hc
  go_wp2
  go_ret
  exact ⟨rfl, unhide H⟩
end Go.Proofs.Yteflnddphpjahaa.Dk
