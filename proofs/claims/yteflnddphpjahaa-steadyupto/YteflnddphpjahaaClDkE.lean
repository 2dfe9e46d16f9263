import Derived.Test.YteflnddphpjahaaClDkD
import Derived.Test.YteflnddphpjahaaClSeG
/-
  A disk: operatesOn, Sync, Read.
-/
set_option linter.unusedVariables false
set_option linter.unusedSimpArgs false
set_option maxRecDepth 100000
namespace Go.Proofs.Yteflnddphpjahaa.Dk
open Go.RowKit

def onErr (b : Bool) : Int := if b = true then 0 else 11
set_option maxHeartbeats 1000000 in
theorem operatesOn_any (B D : Nat) (s : Sk) (F : Nat → Fl) (vn vs vc : Value) (l : Int) (vb : Nat → Value) (y : ByteArray) (w : World) (h : DiskAt w B D s F vn vs vc l vb) (hl : s.names.length ≤ 100000) :
    Calls Try.prog 51 #[.pointer (some ⟨D, 0, none⟩), .string y] w fun e w' => e = .returned (.tuple #[optPtr (Sd.tget s.names y), .int .i64 (onErr (Sd.thas s.names y))]) ∧ Below w.heap.size w w' := by
  have hop := operates_any D s.quota vn vs vc l w h.blk
  have hget := get_any D 1 _ _ vn s.names y w (h.tabN hl)
  cases hh : Sd.thas s.names y with
  | true =>
    obtain ⟨_, _, e2⟩ := Sd.tget_at h.sn hh
    obtain ⟨f, hf⟩ : ∃ f, Sd.tget s.names y = some f := ⟨_, e2⟩
    rw [hh, hf] at hget
    rw [hf]
    have e0 : onErr true = 0 := rfl
    rw [e0]
    clear h hl hh e2 hf e0
    unfold optPtr fptr at hget ⊢
    go_enter Try.func51, Try.ntmps51
    go_wp2_with fail
    refine hop.mono ?_
    rintro e w0 ⟨rfl, rfl⟩
    go_wp2_with fail
    refine hget.mono ?_
    rintro e w1 ⟨rfl, hb⟩
    go_wp2
    go_ret2
    exact ⟨rfl, hb⟩
  | false =>
    rw [hh, Sd.tget_none hh] at hget
    rw [Sd.tget_none hh]
    have e0 : onErr false = 11 := rfl
    rw [e0]
    clear h hl hh e0
    unfold optPtr at hget ⊢
    go_enter Try.func51, Try.ntmps51
    go_wp2_with fail
    refine hop.mono ?_
    rintro e w0 ⟨rfl, rfl⟩
    go_wp2_with fail
    refine hget.mono ?_
    rintro e w1 ⟨rfl, hb⟩
    go_wp2
    go_ret2
    exact ⟨rfl, hb⟩

/-- One file anew. -/
theorem disk_file {w W : World} {B D f : Nat} {s : Sk} {F : Nat → Fl} {vn vs vc : Value} {l : Int} {vb : Nat → Value} {X : Fl} {v' : Value} (hd : DiskAt w B D s F vn vs vc l vb) (hf : s.has f)
    (hk : Kept w W (fun k => k ≠ f ∧ (vb f).ownBlock ≠ some k)) (hx : FileAt W B f X v') (hn : v'.ownBlock = (vb f).ownBlock ∨ ∃ g, v'.ownBlock = some g ∧ w.heap.size ≤ g) :
    Below B w W ∧ DiskAt W B D s (upd F f X) vn vs vc l (upd vb f v') := by
  have hff := hd.files f hf
  have hDw := lt_of_block hd.blk
  have hBD := hd.ge
  have hnot : ∀ g e c, w.heap[g]? = some (.cells c e (0, 0)) → e ≠ 76 → e ≠ 5 → (g ≠ f ∧ (vb f).ownBlock ≠ some g) := fun g e c hg h1 h2 => by
    refine ⟨blk_ne hg hff.blk h1, fun e' => ?_⟩
    obtain ⟨c', hc'⟩ := hff.own e'
    exact blk_ne hg hc' h2 rfl
  have hrow : ∀ {e size n : Nat} {v : Value} {xs : List Value}, w.ownsRow B e size v n xs → e ≠ 76 → e ≠ 5 → W.ownsRow B e size v n xs := fun h h1 h2 => own_kept h hk (fun g hg => by
    obtain ⟨c, hc, _⟩ := own_blk h hg
    exact hnot g _ c hc h1 h2)
  refine ⟨hk.toBelow (by omega) (fun k hk' => ⟨by have := hff.ge; omega, fun e => by obtain ⟨_, _, h⟩ := own_blk hff.row e; omega⟩), ⟨hBD, ?_, hrow hd.rn (by decide) (by decide), hrow hd.rs (by decide) (by decide), hrow hd.rc (by decide) (by decide), hd.sn, hd.ss, hd.apart, fun k hkk => ?_, fun k k' hkk hkk' hne g hg => ?_⟩⟩
  · have := hnot D _ _ hd.blk (by decide) (by decide)
    rw [hk.block D hDw this]; exact hd.blk
  · by_cases e : k = f
    · subst e; rw [upd_same, upd_same]; exact hx
    · rw [upd_other _ _ e, upd_other _ _ e]
      refine (hd.files k hkk).kept hk ⟨e, fun e' => ?_⟩ (fun g hg => ⟨?_, fun e' => hd.fapart k f hkk hf e g hg e'⟩)
      · obtain ⟨c, hc⟩ := hff.own e'
        exact blk_ne hc (hd.files k hkk).blk (by decide) rfl
      · obtain ⟨c, hc⟩ := (hd.files k hkk).own hg
        exact blk_ne hc hff.blk (by decide)
  · have hnew : ∀ k, s.has k → k ≠ f → ∀ g, v'.ownBlock = some g → (vb k).ownBlock ≠ some g := fun k hk2 hkf g hg e => by
      rcases hn with h | ⟨g', h, hg'⟩
      · rw [h] at hg; exact hd.fapart f k hf hk2 (Ne.symm hkf) g hg e
      · rw [h] at hg
        have : g' = g := Option.some.inj hg
        obtain ⟨c, hc⟩ := (hd.files k hk2).own e
        have := lt_of_block hc
        omega
    by_cases e : k = f
    · subst e
      rw [upd_same] at hg
      rw [upd_other _ _ (Ne.symm hne)]
      exact hnew k' hkk' (Ne.symm hne) g hg
    · rw [upd_other _ _ e] at hg
      by_cases e' : k' = f
      · subst e'
        rw [upd_same]
        exact fun h => hnew k hkk e g h hg
      · rw [upd_other _ _ e']; exact hd.fapart k k' hkk hkk' hne g hg

/-- What an operation on one file leaves. -/
def OnPost (B D : Nat) (s : Sk) (F : Nat → Fl) (vn vs vc : Value) (l : Int) (vb : Nat → Value) (f : Nat) (X : Fl) (w : World) (e : Ending) (w' : World) : Prop :=
  e = .returned (.int .i64 0) ∧ Below B w w' ∧ ∃ v', DiskAt w' B D s (upd F f X) vn vs vc l (upd vb f v')
theorem file_set1 {w : World} {B f : Nat} {F : Fl} {vb : Value} (h : FileAt w B f F vb) (n : Nat) : FileAt (w.setCell ⟨f, 1, none⟩ (.int .i64 n)) B f ⟨F.bytes, n⟩ vb :=
  ⟨h.ge, by rw [heap_setCell_same w f 1 _ _ _ h.blk]; rfl, ownsRow_setCell_other h.row (fun e => by
    obtain ⟨c, hc⟩ := h.own e
    exact blk_ne hc h.blk (by decide) rfl) _⟩
set_option maxHeartbeats 1000000 in
theorem sync_any (B D : Nat) (s : Sk) (F : Nat → Fl) (vn vs vc : Value) (l : Int) (vb : Nat → Value) (y : ByteArray) (f : Nat) (w : World) (h : DiskAt w B D s F vn vs vc l vb) (hl : s.names.length ≤ 100000) (hf : Sd.tget s.names y = some f) :
    Calls Try.prog 34 #[.pointer (some ⟨D, 0, none⟩), .string y] w (OnPost B D s F vn vs vc l vb f ⟨(F f).bytes, (F f).bytes.size⟩ w) := by
  have HD := hide h
  have hon := operatesOn_any B D s F vn vs vc l vb y w h hl
  have hmem := (Sd.tget_mem h.sn).1 hf
  have hth : Sd.thas s.names y = true := Sd.thas_mem.2 ⟨f, hmem⟩
  have hhas : s.has f := Or.inl ⟨y, hmem⟩
  rw [hf, hth] at hon
  have e0 : onErr true = 0 := rfl
  rw [e0] at hon
  unfold optPtr fptr at hon
  have HH := hide hhas
  clear h hl hmem hth hf hhas e0
  go_enter Try.func34, Try.ntmps34
  go_wp2_with fail
  refine hon.mono ?_
  rintro e w1 ⟨rfl, hb⟩
  have hd1 := (unhide HD).below hb
  have hff := hd1.files f (unhide HH)
  have hrow := hff.row
  obtain ⟨p, cap, hv, _⟩ := own_slice hrow
  have hblk := hff.blk
  rw [hv] at hblk
  have c0 : w1.cell? ⟨f, 0, none⟩ = some (.slice p (F f).bytes.size cap) := by rw [cell_of_row w1 _ 0 _ _ _ hblk]; rfl
  have c1 : w1.cell? ⟨f, 1, none⟩ = some (.int .i64 (F f).safe) := by rw [cell_of_row w1 _ 1 _ _ _ hblk]; rfl
  have f1 : w1.frozen? ⟨f, 1, none⟩ = false := by simp [World.frozen?, hblk]
  have hm : (F f).bytes.size ≤ 9223372036854775807 := by
    rcases hrow.2 with ⟨_, h0⟩ | ⟨_, cap', _, _, _, _, h1, h2, _⟩
    · omega
    · unfold maxLen at h2; omega
  have HF := hide hff
  have HD1 := hide hd1
  have HB := hide hb
  clear hd1 hff hrow hv hblk hb hon
  go_wp2
  go_ret
  have hff := unhide HF
  obtain ⟨r1, r2⟩ := disk_file (unhide HD1) (unhide HH) (W := w1.setCell ⟨f, 1, none⟩ (.int .i64 ((F f).bytes.size : Nat))) (((Kept.refl w1 _)).setCell (fun hk => hk.1 rfl) _) (file_set1 hff (F f).bytes.size) (Or.inl rfl)
  exact ⟨rfl, ((unhide HB).mono (by have := (unhide HD).ge; have := lt_of_block (unhide HD).blk; omega)).trans r1, _, r2⟩
end Go.Proofs.Yteflnddphpjahaa.Dk
