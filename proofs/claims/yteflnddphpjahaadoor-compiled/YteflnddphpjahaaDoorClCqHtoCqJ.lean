import Derived.Test.YteflnddphpjahaaDoorClCqDtoCqG
import Derived.Deep.RegionLaw
/-
  The brackets on a dry machine.
-/
set_option linter.unusedVariables false
set_option linter.unusedSimpArgs false
set_option maxRecDepth 100000
namespace Go.Proofs.YteflnddphpjahaaDoor
open Go.RowKit

theorem Tryd.info_loop : (Tryd.prog.info? 202).map (fun i => (i.zero, i.size, i.bytes)) = some (some (.agg #[.int .i64 0, .int .i64 0]), 2, 16) := by kernel_rfl
theorem Dry.lt {w : World} {M at' fuel h : Nat} {code loops : Value} (hd : Dry w M code at' fuel h loops) : M < w.heap.size := World.block_lt_of_cell? w _ hd.c0
theorem Dry.far {w w' : World} {M at' fuel h : Nat} {code loops : Value} (hd : Dry w M code at' fuel h loops) (hc : ∀ j, w'.cell? ⟨M, j, none⟩ = w.cell? ⟨M, j, none⟩) (hf : ∀ j, w'.frozen? ⟨M, j, none⟩ = w.frozen? ⟨M, j, none⟩) : Dry w' M code at' fuel h loops :=
  ⟨(hc 0).trans hd.c0, (hc 1).trans hd.c1, (hc 2).trans hd.c2, fun j hj => by rw [hc]; exact hd.sg j hj, fun j hj => by rw [hc]; exact hd.st j hj, (hc 28).trans hd.hh, (hc 29).trans hd.ll, (hc 30).trans hd.dr, fun j => (hf j).trans (hd.fz j)⟩
theorem Dry.alloc {w : World} {M at' fuel h : Nat} {code loops : Value} (hd : Dry w M code at' fuel h loops) (o : Obj) : Dry (w.alloc o) M code at' fuel h loops :=
  hd.far (fun j => ((Below.refl w.heap.size w).alloc (Nat.le_refl _) o).cell (p := ⟨M, j, none⟩) hd.lt) (fun j => ((Below.refl w.heap.size w).alloc (Nat.le_refl _) o).frozen (p := ⟨M, j, none⟩) hd.lt)
theorem Dry.grown {w w' : World} {M at' fuel h : Nat} {code loops : Value} {row : Option Nat} (hd : Dry w M code at' fuel h loops) (hg : w.grownBy w' row) (hne : some M ≠ row) : Dry w' M code at' fuel h loops :=
  hd.far (fun j => hg.cell_far ⟨M, j, none⟩ hd.lt hne) (fun j => hg.frozen_far ⟨M, j, none⟩ hd.lt hne)
theorem Dry.lps {w : World} {M at' fuel h : Nat} {code loops : Value} (hd : Dry w M code at' fuel h loops) (l' : Value) : Dry (w.setCell ⟨M, 29, none⟩ l') M code at' fuel h l' := by
  obtain ⟨c0, c1, c2, sg, st, hh, ll, dr, fz⟩ := hd
  refine ⟨?_, ?_, ?_, fun j hj => ?_, fun j hj => ?_, ?_, ?_, ?_, fun j => ?_⟩
  · rw [cell_set_other (by omega)]; exact c0
  · rw [cell_set_other (by omega)]; exact c1
  · rw [cell_set_other (by omega)]; exact c2
  · rw [cell_set_other (by omega)]; exact sg j hj
  · rw [cell_set_other (by omega)]; exact st j hj
  · rw [cell_set_other (by omega)]; exact hh
  · exact World.cell?_setCell_same _ _ _ ll
  · rw [cell_set_other (by omega)]; exact dr
  · rw [World.frozen?_setCell]; exact fz j
theorem Only.own {M : Nat} {w w' : World} (h : Only M w w') {e size n : Nat} {v : Value} {xs : List Value} (ho : w.ownsRow (M + 1) e size v n xs) : w'.ownsRow (M + 1) e size v n xs := by
  obtain ⟨h1, h2⟩ := ho
  refine ⟨h1, ?_⟩
  rcases h2 with h2 | ⟨g, cap, cur, hv, hB, hg, r⟩
  · exact .inl h2
  · exact .inr ⟨g, cap, cur, hv, hB, (h.2 g (by omega)).trans hg, r⟩
set_option maxHeartbeats 1000000 in
theorem begin_ok (M at' fuel h n : Nat) (code x : Value) (xs : List Value) (w : World) (hd : Dry w M code at' fuel (h + 1) x) (hle : h + 1 ≤ 16) (hn : n ≤ 10000) (ho : w.ownsRow (M + 1) 202 2 x n xs) :
    Calls Tryd.prog 111 #[.pointer (some ⟨M, 0, none⟩)] w fun e w' => e = .returned (.tuple #[]) ∧ ∃ x', Dry w' M code at' fuel h x' ∧ w'.ownsRow (M + 1) 202 2 x' (n + 1) (xs ++ [.int .i64 1, .int .i64 h]) ∧ Below M w w' := by
  obtain ⟨t2, ht2, hva, hvb, hvc⟩ := info_parts Tryd.info_loop
  go_enter Tryd.func111, Tryd.ntmps111
  go_wp2_with fail
  refine (take_ok M at' fuel h code x w hd (by omega)).mono ?_
  rintro e w1 ⟨rfl, hd1, ho1⟩
  have hr : w1.ownsRow (M + 1) 202 2 x n xs := ho1.own ho
  have hml := hd1.lt
  have e1 := hd1.hh
  have e2 := hd1.ll
  have e3 := hd1.fz 29
  have hne2 : some M ≠ x.ownBlock := fun e => by have := (hr.lt M e.symm).1; omega
  go_wp2_with fail
  go_region_law ((refine step_append_lies _ (by rfl) _ _ _ (by rfl) (M + 1) 202 t2 _ 2 16 Tryd.underlying154 ht2 hva hvb hvc rfl (by omega) x _ _ (by rfl) ((hr.alloc _).drew) ⟨w1.heap.size, 0, none⟩ 1 1 [.int .i64 1, .int .i64 (h : Int)] (by rfl) (by rfl) (World.news_of_block (cs := #[.int .i64 1, .int .i64 (h : Int)]) (t := 202) (fr := (0, 0)) (heap_alloc_new w1 _)) (by simp [Value.oneCell']) (by omega) (by unfold maxLen; omega) (by omega) (by simp; omega) (w1.heap.size + 1) (by simp) ?_; intro gg cp w2 hown1 hgrow hat hlt1; have hq0 : w2.cell? ⟨M, 29, none⟩ = some x := (hgrow.cell_far ⟨M, 29, none⟩ (by simp; omega) hne2).trans ((hd1.alloc _).drew).ll; have hq1 : w2.frozen? ⟨M, 29, none⟩ = false := (hgrow.frozen_far ⟨M, 29, none⟩ (by simp; omega) hne2).trans (((hd1.alloc _).drew).fz 29)))
  all_goals
    have hb1 := below_app (((Below.refl M w1).alloc (Nat.le_of_lt hml) _).drew) ((hd1.alloc _).drew).lt ((hr.alloc _).drew) hgrow 29 (.slice (some ⟨gg, 0, none⟩) (n + 1) cp)
    exact bodyPost_end (results_none rfl _ _ _) rfl ⟨rfl, _, (((hd1.alloc _).drew).grown hgrow hne2).lps _, ((Only.refl M w2).set _ _).own hown1, ho1.below.trans hb1⟩
end Go.Proofs.YteflnddphpjahaaDoor
/-
  The brackets on a dry machine: the second.
-/
set_option linter.unusedVariables false
set_option linter.unusedSimpArgs false
set_option maxRecDepth 100000
namespace Go.Proofs.YteflnddphpjahaaDoor
open Go.RowKit

set_option maxHeartbeats 1000000 in
theorem begin_none (M at' fuel : Nat) (code x : Value) (w : World) (hd : Dry w M code at' fuel 0 x) (u : TypeId) (p : Value) (he : w.cell? ⟨4, 0, none⟩ = some (.iface u p)) :
    Calls Tryd.prog 111 #[.pointer (some ⟨M, 0, none⟩)] w fun e w' => e = .panicked [{ v := .iface u p, recovered := false }] ∧ w' = w := by
  go_enter Tryd.func111, Tryd.ntmps111
  go_wp2_with fail
  refine (take_none M at' fuel code x w hd u p he).mono ?_
  rintro e w1 ⟨rfl, rfl⟩
  go_wp2
  exact ⟨rfl, rfl, rfl⟩
theorem own_cut {w : World} {B e size n g cap : Nat} {ys : List Value} (h : w.ownsRow B e size (.slice (some ⟨g, 0, none⟩) (n + 1) cap) (n + 1) ys) : w.ownsRow B e size (.slice (some ⟨g, 0, none⟩) n cap) n (ys.take (n * size)) := by
  obtain ⟨h1, h2⟩ := h
  rcases h2 with ⟨h2, _⟩ | ⟨g', cap', cur, hv, hB, hg, r1, r2, r3, r4⟩
  · cases h2
  · cases hv
    have hle : n * size ≤ (n + 1) * size := Nat.mul_le_mul_right _ (by omega)
    refine ⟨by rw [List.length_take, h1]; omega, .inr ⟨g, cap, cur, rfl, hB, hg, by omega, r2, r3, ?_⟩⟩
    rw [← r4, List.take_take, Nat.min_eq_left hle]
set_option maxHeartbeats 1000000 in
theorem end_ok (M at' fuel h n g cap : Nat) (code : Value) (xs : List Value) (w : World) (hd : Dry w M code at' fuel h (.slice (some ⟨g, 0, none⟩) (n + 1) cap)) (hn : n ≤ 10000) (ho : w.ownsRow (M + 1) 202 2 (.slice (some ⟨g, 0, none⟩) (n + 1) cap) (n + 1) (xs ++ [.int .i64 1, .int .i64 h])) (hl : xs.length = n * 2) :
    Calls Tryd.prog 113 #[.pointer (some ⟨M, 0, none⟩)] w fun e w' => e = .returned (.tuple #[]) ∧ Dry w' M code at' fuel h (.slice (some ⟨g, 0, none⟩) n cap) ∧ w'.ownsRow (M + 1) 202 2 (.slice (some ⟨g, 0, none⟩) n cap) n xs ∧ Below M w w' := by
  have q0 : w.cell? ⟨g, n * 2, none⟩ = some (.int .i64 1) := (ho.cellAt (n * 2) (by omega)).trans (by rw [List.getElem?_append_right (by omega), hl]; simp)
  have q1 : w.cell? ⟨g, n * 2 + 1, none⟩ = some (.int .i64 h) := (ho.cellAt (n * 2 + 1) (by omega)).trans (by rw [List.getElem?_append_right (by omega), hl]; simp)
  have q2 := ho.frozenAt (n * 2)
  have hgM : M < g := (ho.lt g rfl).1
  have hMg : M ≠ g := by omega
  have hgm : g ≠ M := by omega
  have hcap : n + 1 ≤ cap := by
    rcases ho.2 with ⟨h0, _⟩ | ⟨g', cap', cur, hv, hB, hg, r⟩
    · cases h0
    · cases hv; exact r.1
  have hc0 : (n : Int) ≤ (cap : Int) := by omega
  have hc1 : n ≤ cap := by omega
  have e1 := hd.hh
  have e2 := hd.ll
  have e3 := hd.fz 29
  have g0 : ((n + 1 : Nat) : Int) - 1 = (n : Int) := by omega
  have g1 : (0 : Int) ≤ (n : Int) := Int.natCast_nonneg _
  have g2 : (n : Int) < ((n + 1 : Nat) : Int) := by omega
  have g3 : (((h : Nat) : Int) != ((h : Nat) : Int)) = false := by simp
  have HZ : Hid (∀ k, (fun w' => Dry w' M code at' fuel h (.slice (some ⟨g, 0, none⟩) n cap) ∧ w'.ownsRow (M + 1) 202 2 (.slice (some ⟨g, 0, none⟩) n cap) n xs ∧ Below M w w') ((((w.drewN k).setCell ⟨g, n * 2, none⟩ (.int .i64 0)).setCell ⟨M, 29, none⟩ (.slice (some ⟨g, 0, none⟩) n cap)).drew)) := by
    intro k
    have hbk := below_drewN w k
    have hd1 : Dry (w.drewN k) M code at' fuel h (.slice (some ⟨g, 0, none⟩) (n + 1) cap) := hd.far (fun j => hbk.cell (p := ⟨M, j, none⟩) hd.lt) (fun j => hbk.frozen (p := ⟨M, j, none⟩) hd.lt)
    have ho1 := own_below ho hbk
    have hst := ho1.stored (n * 2) (.int .i64 0)
    have hd2 := hd1.grown hst.2 (by simp [Value.ownBlock]; omega)
    have ho2 := own_cut hst.1
    rw [List.set_append_right _ _ (by omega), List.take_left' (by omega)] at ho2
    have hb2 := ((hbk.mono (Nat.le_of_lt hd.lt)).setCell (p := ⟨g, n * 2, none⟩) (Nat.le_of_lt hgM) (.int .i64 0)).setCell (p := ⟨M, 29, none⟩) (Nat.le_refl _) (.slice (some ⟨g, 0, none⟩) n cap)
    exact ⟨(hd2.lps _).drew, (((Only.refl M _).set _ _).own ho2).drew, hb2.drew⟩
  go_enter Tryd.func113, Tryd.ntmps113
  go_wp2_with fail
  go_quiet (fail)
  go_wp2_with fail
  go_quiet (fail)
  go_wp2
  go_region
  generalize nq = n2 at *
  exact bodyPost_end (results_none rfl _ _ _) rfl ⟨rfl, (unhide HZ _).1, (unhide HZ _).2.1, (unhide HZ _).2.2⟩
end Go.Proofs.YteflnddphpjahaaDoor
/-
  The brackets on a dry machine: heights that differ; the two words.
-/
set_option linter.unusedVariables false
set_option linter.unusedSimpArgs false
set_option maxRecDepth 100000
namespace Go.Proofs.YteflnddphpjahaaDoor
open Go.RowKit

set_option maxHeartbeats 1000000 in
theorem end_bad (M at' fuel h m n g cap : Nat) (code : Value) (xs : List Value) (w : World) (hd : Dry w M code at' fuel h (.slice (some ⟨g, 0, none⟩) (n + 1) cap)) (hn : n ≤ 10000) (ho : w.ownsRow (M + 1) 202 2 (.slice (some ⟨g, 0, none⟩) (n + 1) cap) (n + 1) (xs ++ [.int .i64 1, .int .i64 m])) (hl : xs.length = n * 2) (hm : h ≠ m) (u : TypeId) (p : Value) (he : w.cell? ⟨4, 0, none⟩ = some (.iface u p)) :
    Calls Tryd.prog 113 #[.pointer (some ⟨M, 0, none⟩)] w fun e w' => e = .panicked [{ v := .iface u p, recovered := false }] ∧ Below w.heap.size w w' := by
  have q1 : w.cell? ⟨g, n * 2 + 1, none⟩ = some (.int .i64 m) := (ho.cellAt (n * 2 + 1) (by omega)).trans (by rw [List.getElem?_append_right (by omega), hl]; simp)
  have e1 := hd.hh
  have e2 := hd.ll
  have g0 : ((n + 1 : Nat) : Int) - 1 = (n : Int) := by omega
  have g1 : (0 : Int) ≤ (n : Int) := Int.natCast_nonneg _
  have g2 : (n : Int) < ((n + 1 : Nat) : Int) := by omega
  have g3 : (((h : Nat) : Int) != ((m : Nat) : Int)) = true := by rw [bne_iff_ne]; omega
  go_enter Tryd.func113, Tryd.ntmps113
  go_wp2_with fail
  go_quiet (fail)
  go_wp2_with fail
  go_quiet (fail)
  go_wp2
  exact ⟨rfl, rfl, below_drewN _ _⟩
set_option maxHeartbeats 1000000 in
theorem do_24 (R : Ending → World → Prop) (M : Nat) (w : World) (h : Calls Tryd.prog 111 #[.pointer (some ⟨M, 0, none⟩)] w R) (hR : ∀ e w', R e w' → e = .returned (.tuple #[]) ∨ ∃ v, e = .panicked [{ v := v, recovered := false }]) : Calls Tryd.prog 110 #[.pointer (some ⟨M, 0, none⟩)] w R := by
  go_enter Tryd.func110, Tryd.ntmps110
  go_wp2_with fail
  refine h.mono ?_
  intro e w1 hr
  rcases hR e w1 hr with rfl | ⟨v, rfl⟩
  · go_wp2
    exact bodyPost_end (results_none rfl _ _ _) rfl hr
  · go_wp2
    exact ⟨rfl, hr⟩
set_option maxHeartbeats 1000000 in
theorem do_25 (R : Ending → World → Prop) (M : Nat) (w : World) (h : Calls Tryd.prog 113 #[.pointer (some ⟨M, 0, none⟩)] w R) (hR : ∀ e w', R e w' → e = .returned (.tuple #[]) ∨ ∃ v, e = .panicked [{ v := v, recovered := false }]) : Calls Tryd.prog 112 #[.pointer (some ⟨M, 0, none⟩)] w R := by
  go_enter Tryd.func112, Tryd.ntmps112
  go_wp2_with fail
  refine h.mono ?_
  intro e w1 hr
  rcases hR e w1 hr with rfl | ⟨v, rfl⟩
  · go_wp2
    exact bodyPost_end (results_none rfl _ _ _) rfl hr
  · go_wp2
    exact ⟨rfl, hr⟩
end Go.Proofs.YteflnddphpjahaaDoor
