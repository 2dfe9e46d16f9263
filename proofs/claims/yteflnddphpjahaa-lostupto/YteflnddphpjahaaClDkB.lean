import Derived.Test.YteflnddphpjahaaClDkA
import Derived.Deep.RegionLaw
import Derived.Deep.AppendLies
/-
  A disk's changes: makeIn, change, Create.
-/
set_option linter.unusedVariables false
set_option linter.unusedSimpArgs false
set_option maxRecDepth 100000
namespace Go.Proofs.Yteflnddphpjahaa.Dk
open Go.RowKit

theorem blk_ne {w : World} {a b : Nat} {x y : Array Value} {t u : TypeId} {p q : Nat × Nat} (h : w.heap[a]? = some (.cells x t p)) (k : w.heap[b]? = some (.cells y u q)) (ht : t ≠ u) : a ≠ b := fun e => by
  subst e; rw [h] at k; injection k with k; injection k with _ k; exact ht k
theorem own_blk {w : World} {B e size n g : Nat} {v : Value} {xs : List Value} (h : w.ownsRow B e size v n xs) (hg : v.ownBlock = some g) : ∃ cur, w.heap[g]? = some (.cells cur e (0, 0)) ∧ B ≤ g := by
  rcases h.2 with ⟨rfl, _⟩ | ⟨g', cap, cur, rfl, hB, hgg, _⟩
  · simp [Value.ownBlock] at hg
  · have : g' = g := by simpa [Value.ownBlock] using hg
    subst this
    exact ⟨cur, hgg, hB⟩
theorem FileAt.kept {w w' : World} {B f : Nat} {F : Fl} {vb : Value} {ok : Nat → Prop} (h : FileAt w B f F vb) (hk : Kept w w' ok) (h1 : ok f) (h2 : ∀ g, vb.ownBlock = some g → ok g) : FileAt w' B f F vb :=
  ⟨h.ge, (hk.block f (lt_of_block h.blk) h1).trans h.blk, own_kept h.row hk h2⟩
theorem FileAt.own {w : World} {B f : Nat} {F : Fl} {vb : Value} (h : FileAt w B f F vb) {g : Nat} (hg : vb.ownBlock = some g) : ∃ cur, w.heap[g]? = some (.cells cur 5 (0, 0)) := by
  obtain ⟨cur, h1, _⟩ := own_blk h.row hg; exact ⟨cur, h1⟩
theorem dk_size (q : Int) (vn vs vc : Value) (l : Int) : (dkCells q vn vs vc l).size = 7 := rfl
theorem dk_set1 (q : Int) (vn vs vc v : Value) (l : Int) : (dkCells q vn vs vc l).setIfInBounds 1 v = dkCells q v vs vc l := rfl
theorem dk_set2 (q : Int) (vn vs vc v : Value) (l : Int) : (dkCells q vn vs vc l).setIfInBounds 2 v = dkCells q vn v vc l := rfl
theorem dk_set3 (q : Int) (vn vs vc v : Value) (l : Int) : (dkCells q vn vs vc l).setIfInBounds 3 v = dkCells q vn vs v l := rfl
theorem ch_len (L : List Ch) : (chCells L).length = L.length * 3 := by
  induction L with
  | nil => rfl
  | cons p t ih => simp [chCells] at ih ⊢; omega
theorem optPtr_one (o : Option Nat) : (optPtr o).oneCell' = true := by cases o <;> rfl

theorem DiskAt.tabN {w : World} {B D : Nat} {s : Sk} {F : Nat → Fl} {vn vs vc : Value} {l : Int} {vb : Nat → Value} (h : DiskAt w B D s F vn vs vc l vb) (hl : s.names.length ≤ 100000) : TabIn w D 1 (dkCells s.quota vn vs vc l) 59 vn s.names :=
  ⟨h.blk, rfl, own_zero h.rn, h.sn, hl⟩
theorem DiskAt.neN {w : World} {B D : Nat} {s : Sk} {F : Nat → Fl} {vn vs vc : Value} {l : Int} {vb : Nat → Value} (h : DiskAt w B D s F vn vs vc l vb) : vn.ownBlock ≠ some D := fun e => by
  obtain ⟨cur, hc, _⟩ := own_blk h.rn e
  exact blk_ne hc h.blk (by decide) rfl

theorem TabNew.from_alloc {w w' : World} {D o : Nat} {C : Array Value} {tD : TypeId} {v v' : Value} {T' : Sd.Tb} {ob : Obj} (h : TabNew (w.alloc ob) w' D o C tD v v' T') : TabNew w w' D o C tD v v' T' :=
  ⟨h.blk, h.row, ((Kept.refl w _).alloc ob).trans h.kept, by
    rcases h.new with e | ⟨g, e, hg⟩
    · exact Or.inl e
    · exact Or.inr ⟨g, e, by simp at hg; omega⟩⟩

theorem TabNew.from_drew {w w' : World} {D o : Nat} {C : Array Value} {tD : TypeId} {v v' : Value} {T' : Sd.Tb} (h : TabNew w.drew w' D o C tD v v' T') : TabNew w w' D o C tD v v' T' :=
  ⟨h.blk, h.row, ((Kept.refl w _).drew).trans h.kept, h.new⟩

set_option maxHeartbeats 1000000 in
theorem makeIn_set (D : Nat) (C : Array Value) (tD : TypeId) (v : Value) (T : Sd.Tb) (y : ByteArray) (f : Nat) (w : World) (h : TabIn w D 1 C tD v T) (hne : v.ownBlock ≠ some D) (hy : (y.toList == []) = false) :
    Calls Try.prog 55 #[.agg #[.string ⟨#[]⟩, .string y, fptr f], .pointer (some ⟨D, 1, none⟩)] w fun e w' => e = .returned (.tuple #[]) ∧ ∃ v', TabNew w w' D 1 C tD v v' (Sd.tset T y f) := by
  have hset := fun o => set_any D 1 C tD v T y f (w.alloc o) (h.below ((Below.refl _ w).alloc (Nat.le_refl _) o)) hne
  unfold fptr at hset ⊢
  clear h
  go_enter Try.func55, Try.ntmps55
  go_wp2_with fail
  refine (hset _).mono ?_
  rintro e w1 ⟨rfl, v', hn⟩
  have HN := hide (TabNew.from_alloc hn)
  clear hn hset
  go_wp2
  exact bodyPost_end (results_none rfl _ _ _) rfl ⟨rfl, v', unhide HN⟩

theorem Try.info_change : (Try.prog.info? 70).map (fun i => (i.zero, i.size, i.bytes)) = some (some (.agg #[.string ⟨#[]⟩, .string ⟨#[]⟩, .pointer none]), 3, 40) := by kernel_rfl

def ChPost (B D : Nat) (s : Sk) (F : Nat → Fl) (vs : Value) (l : Int) (vb : Nat → Value) (T' : Sd.Tb) (c : Ch) (w : World) (e : Ending) (w' : World) : Prop :=
  e = .returned (.tuple #[]) ∧ Below B w w' ∧ ∃ vn' vc', DiskAt w' B D { s with names := T', chs := s.chs ++ [c] } F vn' vs vc' l vb

theorem own_base {w : World} {B B' e size n : Nat} {v : Value} {xs : List Value} (h : w.ownsRow B e size v n xs) (hg : ∀ g, v.ownBlock = some g → B' ≤ g) : w.ownsRow B' e size v n xs := by
  obtain ⟨h1, h2⟩ := h
  refine ⟨h1, ?_⟩
  rcases h2 with h2 | ⟨g, cap, cur, hv, hB, hgg, r⟩
  · exact .inl h2
  · exact .inr ⟨g, cap, cur, hv, hg g (by rw [hv]; rfl), hgg, r⟩
theorem own_lt {w : World} {B e size n g : Nat} {v : Value} {xs : List Value} (h : w.ownsRow B e size v n xs) (hg : v.ownBlock = some g) : g < w.heap.size := by
  obtain ⟨cur, hc, _⟩ := own_blk h hg; exact lt_of_block hc

/-- Names and changes anew: the disk behind them. -/
theorem disk_done {w w1 W : World} {B D : Nat} {s : Sk} {F : Nat → Fl} {vn vn' vs vc vc' : Value} {l : Int} {vb : Nat → Value} {T' : Sd.Tb} {chs' : List Ch}
    (hd : DiskAt w B D s F vn vs vc l vb) (hn : TabNew w w1 D 1 (dkCells s.quota vn vs vc l) 59 vn vn' T') (hT : Sd.tsorted T')
    (hk : Kept w1 W (fun k => k ≠ D ∧ vc.ownBlock ≠ some k)) (hblk : W.heap[D]? = some (.cells (dkCells s.quota vn' vs vc' l) 59 (0, 0)))
    (hrc : W.ownsRow B 70 3 vc' chs'.length (chCells chs'))
    (hfl : ∀ f, ({ s with names := T', chs := chs' } : Sk).has f → FileAt w B f (F f) (vb f))
    (hfa : ∀ f f', ({ s with names := T', chs := chs' } : Sk).has f → ({ s with names := T', chs := chs' } : Sk).has f' → f ≠ f' → ∀ g, (vb f).ownBlock = some g → (vb f').ownBlock ≠ some g) :
    Below B w W ∧ DiskAt W B D { s with names := T', chs := chs' } F vn' vs vc' l vb := by
  have hDw : D < w.heap.size := lt_of_block hd.blk
  have hBD := hd.ge
  have hK : Kept w W (fun k => k ≠ D ∧ vn.ownBlock ≠ some k ∧ vc.ownBlock ≠ some k) := (hn.kept.mono (fun k _ h => ⟨h.1, h.2.1⟩)).trans (hk.mono (fun k _ h => ⟨h.1, h.2.2⟩))
  have hBn : ∀ g, vn'.ownBlock = some g → B ≤ g := fun g hg => by
    rcases hn.new with e | ⟨g', e, hg'⟩
    · rw [e] at hg; obtain ⟨_, _, h⟩ := own_blk hd.rn hg; exact h
    · rw [e] at hg; have : g' = g := Option.some.inj hg; omega
  have hfo : ∀ f F' v', FileAt w B f F' v' → (f ≠ D ∧ vn.ownBlock ≠ some f ∧ vc.ownBlock ≠ some f) ∧ ∀ g, v'.ownBlock = some g → (g ≠ D ∧ vn.ownBlock ≠ some g ∧ vc.ownBlock ≠ some g) := fun f F' v' hf => by
    refine ⟨⟨blk_ne hf.blk hd.blk (by decide), fun e => ?_, fun e => ?_⟩, fun g hg => ?_⟩
    · obtain ⟨c, hc, _⟩ := own_blk hd.rn e; exact blk_ne hc hf.blk (by decide) rfl
    · obtain ⟨c, hc, _⟩ := own_blk hd.rc e; exact blk_ne hc hf.blk (by decide) rfl
    · obtain ⟨c, hc⟩ := hf.own hg
      refine ⟨blk_ne hc hd.blk (by decide), fun e => ?_, fun e => ?_⟩
      · obtain ⟨c', hc', _⟩ := own_blk hd.rn e; exact blk_ne hc' hc (by decide) rfl
      · obtain ⟨c', hc', _⟩ := own_blk hd.rc e; exact blk_ne hc' hc (by decide) rfl
  refine ⟨hK.toBelow (by omega) (fun k hk => ⟨by omega, fun e => ?_, fun e => ?_⟩), ⟨hBD, hblk, ?_, ?_, hrc, hT, hd.ss, ?_, fun f hf => ?_, hfa⟩⟩
  · obtain ⟨_, _, h⟩ := own_blk hd.rn e; omega
  · obtain ⟨_, _, h⟩ := own_blk hd.rc e; omega
  · refine own_base (own_kept hn.row hk (fun g hg => ⟨?_, fun e => ?_⟩)) hBn
    · obtain ⟨c, hc, _⟩ := own_blk hn.row hg
      exact blk_ne hc hn.blk (by decide)
    · have hg2 := own_lt hd.rc e
      obtain ⟨c', hc', _⟩ := own_blk hd.rc e
      obtain ⟨c, hc, _⟩ := own_blk hn.row hg
      have h3 := hn.kept.block g hg2 ⟨blk_ne hc' hd.blk (by decide), fun e2 => by obtain ⟨c2, hc2, _⟩ := own_blk hd.rn e2; exact blk_ne hc2 hc' (by decide) rfl⟩
      rw [h3] at hc
      exact blk_ne hc hc' (by decide) rfl
  · refine own_kept hd.rs hK (fun g hg => ?_)
    obtain ⟨c, hc, _⟩ := own_blk hd.rs hg
    exact ⟨blk_ne hc hd.blk (by decide), fun e => hd.apart g e hg, fun e => by obtain ⟨c', hc', _⟩ := own_blk hd.rc e; exact blk_ne hc' hc (by decide) rfl⟩
  · intro g hg e
    rcases hn.new with h | ⟨g', h, hg'⟩
    · rw [h] at hg; exact hd.apart g hg e
    · rw [h] at hg
      have : g' = g := Option.some.inj hg
      have := own_lt hd.rs e
      omega
  · obtain ⟨h1, h2⟩ := hfo f _ _ (hfl f hf)
    exact (hfl f hf).kept hK h1 h2

set_option maxHeartbeats 2000000 in
theorem change_any (B D : Nat) (s : Sk) (F : Nat → Fl) (vn vs vc : Value) (l : Int) (vb : Nat → Value) (T' : Sd.Tb) (c : Ch) (w : World) (h : DiskAt w B D s F vn vs vc l vb) (hl : s.chs.length ≤ 10000000)
    (hmk : ∀ W, Below w.heap.size w W → Calls Try.prog 55 #[.agg #[.string c.gone, .string c.name, optPtr c.file], .pointer (some ⟨D, 1, none⟩)] W fun e w' => e = .returned (.tuple #[]) ∧ ∃ v', TabNew W w' D 1 (dkCells s.quota vn vs vc l) 59 vn v' T')
    (hT : Sd.tsorted T') (hfl : ∀ f, ({ s with names := T', chs := s.chs ++ [c] } : Sk).has f → FileAt w B f (F f) (vb f))
    (hfa : ∀ f f', ({ s with names := T', chs := s.chs ++ [c] } : Sk).has f → ({ s with names := T', chs := s.chs ++ [c] } : Sk).has f' → f ≠ f' → ∀ g, (vb f).ownBlock = some g → (vb f').ownBlock ≠ some g) :
    Calls Try.prog 49 #[.pointer (some ⟨D, 0, none⟩), .agg #[.string c.gone, .string c.name, optPtr c.file]] w (ChPost B D s F vs l vb T' c w) := by
  obtain ⟨i0, hi, hz0, hz1, hz2⟩ := info_parts Try.info_change
  have HD := hide h
  have HFL := hide hfl
  have HFA := hide hfa
  clear h hfl hfa
  obtain ⟨p, ho⟩ : ∃ p, optPtr c.file = .pointer p := by cases c.file <;> exact ⟨_, rfl⟩
  have HO := hide ho
  rw [ho] at hmk ⊢
  clear ho
  have hb0 : ∀ o, Below w.heap.size w (w.alloc o).drew := fun o => ((Below.refl _ w).alloc (Nat.le_refl _) o).drew
  go_enter Try.func49, Try.ntmps49
  go_wp2_with fail
  go_region_with (go_at_call 55; refine (hmk _ (hb0 _)).mono ?_; rintro e w1 ⟨rfl, vn', hn0⟩)
  have hd := unhide HD
  have hn := TabNew.from_alloc (TabNew.from_drew hn0)
  have hDw : D < w.heap.size := lt_of_block hd.blk
  have hkw : Kept (w.alloc (.cells #[.string c.gone, .string c.name, .pointer p] 70)).drew w1 (fun k => k ≠ D ∧ vn.ownBlock ≠ some k) := hn0.kept
  have hbx : w1.heap[w.heap.size]? = some (.cells #[.string c.gone, .string c.name, .pointer p] 70 (0, 0)) :=
    (hkw.block w.heap.size (by simp) ⟨by omega, fun e => by obtain ⟨cur, hc, _⟩ := own_blk hd.rn e; have := lt_of_block hc; omega⟩).trans (heap_alloc_new w _)
  have b0 : w1.cell? ⟨w.heap.size, 0, none⟩ = some (.string c.gone) := by rw [cell_of_row w1 _ 0 _ _ _ hbx]; rfl
  have b1 : w1.cell? ⟨w.heap.size, 1, none⟩ = some (.string c.name) := by rw [cell_of_row w1 _ 1 _ _ _ hbx]; rfl
  have b2 : w1.cell? ⟨w.heap.size, 2, none⟩ = some (.pointer p) := by rw [cell_of_row w1 _ 2 _ _ _ hbx]; rfl
  have hblk := hn.blk
  rw [dk_set1] at hblk
  have d3 : w1.cell? ⟨D, 3, none⟩ = some vc := by rw [cell_of_row w1 _ 3 _ _ _ hblk]; rfl
  have f3 : w1.frozen? ⟨D, 3, none⟩ = false := by simp [World.frozen?, hblk]
  have hrc1 : w1.ownsRow B 70 3 vc s.chs.length (chCells s.chs) := own_kept hd.rc hn.kept (fun g hg => by
    obtain ⟨cur, hc, _⟩ := own_blk hd.rc hg
    refine ⟨blk_ne hc hd.blk (by decide), fun e => ?_⟩
    obtain ⟨cur', hc', _⟩ := own_blk hd.rn e
    exact blk_ne hc hc' (by decide) rfl)
  obtain ⟨pc, cc, rfl, _⟩ := own_slice hrc1
  have hDw1 : D < w1.heap.size := lt_of_block hblk
  have HBLK := hide hblk
  have HRC := hide hrc1
  have HN := hide hn
  have hneD : some D ≠ (Value.slice pc s.chs.length cc).ownBlock := fun e => by
    obtain ⟨c', hc', _⟩ := own_blk hrc1 e.symm
    exact blk_ne hc' hblk (by decide) rfl
  have hB1 : B ≤ w1.heap.size := by have := hd.ge; omega
  have HBA := hide (fun (o : Obj) => (show ((w1.alloc o).drew).heap[D]? = _ from (Below.heap_alloc w1 o D hDw1).trans hblk))
  clear hblk hrc1 hn hn0 hd hkw hbx hDw
  go_wp2_with fail
  go_region_law ((refine step_append_lies _ (by rfl) _ _ _ (by rfl) B 70 i0 _ 3 40 Try.underlying54 hi hz0 hz1 hz2 rfl (by omega) (.slice pc s.chs.length cc) _ _ (by rfl) (((unhide HRC).alloc _).drew) ⟨w1.heap.size, 0, none⟩ 1 1 [.string c.gone, .string c.name, .pointer p] (by rfl) (by rfl) (World.news_of_block (cs := #[.string c.gone, .string c.name, .pointer p]) (t := 70) (fr := (0, 0)) (heap_alloc_new w1 _)) (by simp [Value.oneCell']) (by omega) (by unfold maxLen; omega) (by omega) (by simp; omega) (w1.heap.size + 1) (by simp) ?_; intro gg cp w2 hown1 hgrow hat hlt1; have hq0 : w2.cell? ⟨D, 3, none⟩ = some (.slice pc s.chs.length cc) := (hgrow.cell_far ⟨D, 3, none⟩ (by simp; omega) hneD).trans (by rw [cell_of_row _ D 3 _ _ _ ((unhide HBA) _)]; rfl); have hq1 : w2.frozen? ⟨D, 3, none⟩ = false := (hgrow.frozen_far ⟨D, 3, none⟩ (by simp; omega) hneD).trans (by have hh := (unhide HBA) (.cells #[.string c.gone, .string c.name, .pointer p] 70); simp only [World.frozen?, hh]; rfl)))
  all_goals
    have hd := unhide HD
    have hn := unhide HN
    have hDl : D < w2.heap.size := by have := hgrow.size; simp at this; omega
    have hDb : w2.heap[D]? = some (.cells (dkCells s.quota vn' vs (.slice pc s.chs.length cc) l) 59 (0, 0)) := (hgrow.block D (by simp; omega) hneD).trans ((unhide HBA) _)
    have hK : Kept w1 (w2.setCell ⟨D, 3, none⟩ (.slice (some ⟨gg, 0, none⟩) (s.chs.length + 1) cp)) (fun k => k ≠ D ∧ (Value.slice pc s.chs.length cc).ownBlock ≠ some k) :=
      ((((Kept.refl w1 _).alloc _).drew).trans (Kept.grown hgrow (fun k hk => hk.2))).setCell (fun hk => hk.1 rfl) _
    have hbl : (w2.setCell ⟨D, 3, none⟩ (.slice (some ⟨gg, 0, none⟩) (s.chs.length + 1) cp)).heap[D]? = some (.cells (dkCells s.quota vn' vs (.slice (some ⟨gg, 0, none⟩) (s.chs.length + 1) cp) l) 59 (0, 0)) := by
      rw [heap_setCell_same w2 D 3 _ _ _ hDb, dk_set3]
    have hcs : chCells (s.chs ++ [c]) = chCells s.chs ++ [.string c.gone, .string c.name, .pointer p] := by
      rw [← unhide HO]; simp [chCells]
    have hrc : (w2.setCell ⟨D, 3, none⟩ (.slice (some ⟨gg, 0, none⟩) (s.chs.length + 1) cp)).ownsRow B 70 3 (.slice (some ⟨gg, 0, none⟩) (s.chs.length + 1) cp) (s.chs ++ [c]).length (chCells (s.chs ++ [c])) := by
      rw [hcs, List.length_append]
      refine ownsRow_setCell_other hown1 (fun e => ?_) _
      obtain ⟨c', hc', _⟩ := own_blk hown1 e
      exact blk_ne hc' hDb (by decide) rfl
    obtain ⟨r1, r2⟩ := disk_done hd hn hT hK hbl hrc (unhide HFL) (unhide HFA)
    exact bodyPost_end (results_none rfl _ _ _) rfl ⟨rfl, r1, _, _, r2⟩
end Go.Proofs.Yteflnddphpjahaa.Dk
