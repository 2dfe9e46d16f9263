import Derived.Test.YteflnddphpjahaaDoorClMkA
import Derived.Test.YteflnddphpjahaaDoorClSrtL
/-
  graphs.makeGraph.
-/
set_option linter.unusedVariables false
set_option linter.unusedSimpArgs false
set_option maxRecDepth 100000
namespace Go.Proofs.YteflnddphpjahaaDoor
open Go.RowKit Go.Shelf
attribute [local go_sem] Oper.semAt_some

/-- The graph that is being made: its block, its two new lists; the third as it came. -/
structure G2 (w : World) (G : Nat) (v u x : Value) (T : List (Int × Int)) : Prop where
  lt : G < w.heap.size
  blk : w.heap[G]? = some (.cells #[v, u, x] 40 (0, 0))
  r0 : w.ownsRow (G + 1) 21 1 v T.length (T.map fun p => Value.int .i32 p.1)
  r1 : w.ownsRow (G + 1) 2 1 u T.length (T.map fun p => Value.int .i64 p.2)
theorem blk3_cell {w : World} {G : Nat} {v u x : Value} {t : Nat} (h : w.heap[G]? = some (.cells #[v, u, x] t (0, 0))) : w.cell? ⟨G, 0, none⟩ = some v ∧ w.cell? ⟨G, 1, none⟩ = some u ∧ w.cell? ⟨G, 2, none⟩ = some x ∧ ∀ j, w.frozen? ⟨G, j, none⟩ = false := by
  refine ⟨by simp [World.cell?, h], by simp [World.cell?, h], by simp [World.cell?, h], fun j => by simp [World.frozen?, h]⟩
theorem blk3_set0 {w : World} {G : Nat} {v u x : Value} {t : Nat} (h : w.heap[G]? = some (.cells #[v, u, x] t (0, 0))) (v' : Value) : (w.setCell ⟨G, 0, none⟩ v').heap[G]? = some (.cells #[v', u, x] t (0, 0)) := by
  obtain ⟨hlt, hk⟩ := Array.getElem?_eq_some_iff.1 h
  show (w.heap.modify G _)[G]? = _
  rw [Array.getElem?_eq_getElem (by rw [Array.size_modify]; exact hlt), Array.getElem_modify_self, hk]
  rfl
theorem blk3_set1 {w : World} {G : Nat} {v u x : Value} {t : Nat} (h : w.heap[G]? = some (.cells #[v, u, x] t (0, 0))) (v' : Value) : (w.setCell ⟨G, 1, none⟩ v').heap[G]? = some (.cells #[v, v', x] t (0, 0)) := by
  obtain ⟨hlt, hk⟩ := Array.getElem?_eq_some_iff.1 h
  show (w.heap.modify G _)[G]? = _
  rw [Array.getElem?_eq_getElem (by rw [Array.size_modify]; exact hlt), Array.getElem_modify_self, hk]
  rfl
theorem own_not_cells {X Y : World} {row : Option Nat} {base e size k : Nat} {v : Value} {xs : List Value} (hr : X.ownsRow base e size v k xs) (hg : X.grownBy Y row) (hrow : ∀ r, row = some r → ∃ o : Obj, X.heap[r]? = some o ∧ o.isCells = false) : Y.ownsRow base e size v k xs := by
  refine hr.kept hg ?_
  rcases hr.2 with ⟨rfl, _⟩ | ⟨g, cap, cur, rfl, _, hgb, _⟩
  · exact .inl rfl
  · refine .inr fun e' => ?_
    obtain ⟨o, ho, hc⟩ := hrow g (by simpa [Value.ownBlock] using e'.symm)
    rw [hgb] at ho; cases ho; cases hc
theorem G2.turn {X Y : World} {row : Option Nat} {G : Nat} {v u x : Value} {T : List (Int × Int)} (h : G2 X G v u x T) (hg : X.grownBy Y row) (hrow : ∀ r, row = some r → ∃ o : Obj, X.heap[r]? = some o ∧ o.isCells = false) : G2 Y G v u x T := by
  have hne : some G ≠ row := fun e => by obtain ⟨o, ho, hc⟩ := hrow G e.symm; rw [h.blk] at ho; cases ho; cases hc
  exact ⟨Nat.lt_of_lt_of_le h.lt hg.size, (hg.block G h.lt hne).trans h.blk, own_not_cells h.r0 hg hrow, own_not_cells h.r1 hg hrow⟩
theorem G2.own (G : Nat) (x : Value) : Own (fun (T : List (Int × Int)) W => ∃ v u, G2 W G v u x T) := by
  rintro s X Y row ⟨v, u, h⟩ hg hrow
  exact ⟨v, u, h.turn hg hrow⟩
theorem own_not {w : World} {G B e size n : Nat} {v : Value} {xs : List Value} (h : w.ownsRow B e size v n xs) (hG : G < B) : some G ≠ v.ownBlock := fun e => by have := (h.lt G e.symm).1; omega
/-- One entry more: the name has been appended. -/
theorem G2.half {w w1 : World} {G : Nat} {v v' u x : Value} {T : List (Int × Int)} {a : Int} {o : Obj} (h : G2 w G v u x T)
    (ho : w1.ownsRow (G + 1) 21 1 v' (T.length + 1) ((T.map fun p => Value.int .i32 p.1) ++ [.int .i32 a])) (hg : (w.alloc o).grownBy w1 v.ownBlock) :
    w1.heap[G]? = some (.cells #[v, u, x] 40 (0, 0)) ∧ (w1.setCell ⟨G, 0, none⟩ v').heap[G]? = some (.cells #[v', u, x] 40 (0, 0)) ∧
    (w1.setCell ⟨G, 0, none⟩ v').ownsRow (G + 1) 21 1 v' (T.length + 1) ((T.map fun p => Value.int .i32 p.1) ++ [.int .i32 a]) ∧
    (w1.setCell ⟨G, 0, none⟩ v').ownsRow (G + 1) 2 1 u T.length (T.map fun p => Value.int .i64 p.2) ∧ G < w1.heap.size ∧ w.heap.size + 1 ≤ w1.heap.size := by
  have hl := h.lt
  have hs := hg.size
  simp at hs
  have b1 : w1.heap[G]? = some (.cells #[v, u, x] 40 (0, 0)) := (hg.block G (by simp; omega) (own_not h.r0 (by omega))).trans ((Below.heap_alloc w o G hl).trans h.blk)
  exact ⟨b1, blk3_set0 b1 v', ownsRow_setCell_below ho (by show G < G + 1; omega) _, ownsRow_setCell_below (own_app (h.r0.alloc o) (h.r1.alloc o) (by decide) hg) (by show G < G + 1; omega) _, by omega, hs⟩
theorem G2.full {w w1 : World} {G : Nat} {v u u' x : Value} {T : List (Int × Int)} {p : Int × Int} {o : Obj} (hl : G < w.heap.size) (hb : w.heap[G]? = some (.cells #[v, u, x] 40 (0, 0)))
    (h0 : w.ownsRow (G + 1) 21 1 v (T.length + 1) ((T.map fun p => Value.int .i32 p.1) ++ [.int .i32 p.1])) (h1 : w.ownsRow (G + 1) 2 1 u T.length (T.map fun p => Value.int .i64 p.2))
    (ho : w1.ownsRow (G + 1) 2 1 u' (T.length + 1) ((T.map fun p => Value.int .i64 p.2) ++ [.int .i64 p.2])) (hg : (w.alloc o).grownBy w1 u.ownBlock) :
    w1.heap[G]? = some (.cells #[v, u, x] 40 (0, 0)) ∧ G2 (w1.setCell ⟨G, 1, none⟩ u') G v u' x (T ++ [p]) := by
  have hs := hg.size
  simp at hs
  have b1 : w1.heap[G]? = some (.cells #[v, u, x] 40 (0, 0)) := (hg.block G (by simp; omega) (own_not h1 (by omega))).trans ((Below.heap_alloc w o G hl).trans hb)
  refine ⟨b1, ⟨by simp [World.setCell]; omega, blk3_set1 b1 u', ?_, ?_⟩⟩
  · have := ownsRow_setCell_below (own_app (h1.alloc o) (h0.alloc o) (by decide) hg) (by show G < G + 1; omega) (a := ⟨G, 1, none⟩) u'
    simpa using this
  · have := ownsRow_setCell_below ho (by show G < G + 1; omega) (a := ⟨G, 1, none⟩) u'
    simpa using this
theorem below_ap {w0 w w1 : World} {G e size n : Nat} {v : Value} {xs : List Value} {o : Obj} (hb : Below G w0 w) (hl : G < w.heap.size) (ho : w.ownsRow (G + 1) e size v n xs) (hg : (w.alloc o).grownBy w1 v.ownBlock) (j : Nat) (u : Value) : Below G w0 (w1.setCell ⟨G, j, none⟩ u) :=
  ((hb.alloc (by omega) o).grown hg (by simp; omega) (fun k hk => by have := (ho.lt k hk).1; omega)).setCell (Nat.le_refl _) _

theorem keeps_ap {w w1 : World} {base e size n : Nat} {v : Value} {xs : List Value} {o : Obj} (ho : w.ownsRow base e size v n xs) (hg : (w.alloc o).grownBy w1 v.ownBlock) (a : Addr) (u : Value) : KeepsOthers w (w1.setCell a u) := by
  refine ((KeepsOthers.alloc w o).trans (KeepsOthers.of_grownBy hg fun j o' ej hj => ?_)).trans (KeepsOthers.setCell _ _ _)
  rcases (ho.alloc o).2 with ⟨rfl, _⟩ | ⟨g, cap, cur, rfl, _, hgb, _⟩
  · simp [Value.ownBlock] at ej
  · obtain rfl : g = j := by simpa [Value.ownBlock] using ej
    rw [hgb] at hj; cases hj; rfl

theorem one_new_set (w : World) (a : Addr) (v x : Value) (t : Nat) : ∀ j u, [x][j]? = some u → ((w.setCell a v).alloc (.cells #[x] t)).cell? ((⟨w.heap.size, 0, none⟩ : Addr).add j) = some u := by
  have h := cell_one_new (w.setCell a v) x t
  have hz : (w.setCell a v).heap.size = w.heap.size := by simp [World.setCell]
  rw [hz] at h
  exact h

theorem blk3_set2 {w : World} {G : Nat} {v u x : Value} {t : Nat} (h : w.heap[G]? = some (.cells #[v, u, x] t (0, 0))) (v' : Value) : (w.setCell ⟨G, 2, none⟩ v').heap[G]? = some (.cells #[v, u, v'] t (0, 0)) := by
  obtain ⟨hlt, hk⟩ := Array.getElem?_eq_some_iff.1 h
  show (w.heap.modify G _)[G]? = _
  rw [Array.getElem?_eq_getElem (by rw [Array.size_modify]; exact hlt), Array.getElem_modify_self, hk]
  rfl
theorem grown_setCell (w : World) (G j : Nat) (v : Value) : w.grownBy (w.setCell ⟨G, j, none⟩ v) (some G) :=
  ⟨rfl, rfl, rfl, by simp [World.setCell], fun k _ hk => Below.heap_setCell _ _ _ k (fun e => hk (by rw [e]))⟩
theorem own_base {w : World} {B B' e size n : Nat} {v : Value} {xs : List Value} (h : w.ownsRow B' e size v n xs) (hB : B ≤ B') : w.ownsRow B e size v n xs := by
  obtain ⟨h1, h2⟩ := h
  refine ⟨h1, ?_⟩
  rcases h2 with h2 | ⟨g, cap, cur, hv, hg, r⟩
  · exact .inl h2
  · exact .inr ⟨g, cap, cur, hv, Nat.le_trans hB hg, r⟩
def set3 (w : World) (R : Nat) (v u x : Value) : World := ((w.setCell ⟨R, 0, none⟩ v).setCell ⟨R, 1, none⟩ u).setCell ⟨R, 2, none⟩ x
theorem set3_grown (w : World) (R : Nat) (v u x : Value) : w.grownBy (set3 w R v u x) (some R) :=
  grown_trans (grown_trans (grown_setCell _ _ _ _) (grown_setCell _ _ _ _)) (grown_setCell _ _ _ _)
theorem set3_blk {w : World} {R : Nat} {a b c : Value} {t : Nat} (h : w.heap[R]? = some (.cells #[a, b, c] t (0, 0))) (v u x : Value) : (set3 w R v u x).heap[R]? = some (.cells #[v, u, x] t (0, 0)) :=
  blk3_set2 (blk3_set1 (blk3_set0 h v) u) x

set_option maxHeartbeats 2000000 in
theorem makeGraph_any (t B Bt : Nat) (x : Value) (T : Sp.Tb) (E : List Sp.Ed) (w : World) (hT : TabAt w Bt t T) (hTl : T.length ≤ 5000) (hE : w.ownsRow B 58 3 x E.length (edCells E)) (hEl : E.length ≤ 5000) (hB : B ≤ w.heap.size) :
    Calls Tryd.prog 42 #[.pointer (some ⟨t, 0, none⟩), x] w fun e w' => ∃ v u Y, e = .returned (graphVal v u x) ∧ w'.ownsRow B 21 1 v T.length (T.map fun p => Value.int .i32 p.1) ∧ w'.ownsRow B 2 1 u T.length (T.map fun p => Value.int .i64 p.2) ∧
      w'.ownsRow B 58 3 x E.length (edCells Y) ∧ St E Y ∧ Ord Y 0 E.length ∧ Below B w w' := by
  obtain ⟨tv, htb, hto⟩ := hT
  obtain ⟨p, cap, rfl, hents⟩ := ents_of_own hto
  obtain ⟨xp, xc, rfl, _⟩ := own_slice hE
  obtain ⟨i0, hi0, hz0, hz1, hz2⟩ := info_parts Tryd.info_i32
  obtain ⟨i1, hi1, hy0, hy1, hy2⟩ := info_parts Tryd.info_i64
  refine (callsIn_wide (n := 5)).1 ?_
  refine callsIn_of_wp_marks Tryd.func42 rfl trivial ?_ rfl
  simp only [Tryd.ntmps42, List.size_toArray, List.length_cons, List.length_nil, Nat.reduceAdd, Nat.reduceSub, Array.replicate_succ, Array.replicate_zero, List.push_toArray, List.append_toArray, List.nil_append, List.cons_append]
  gi_wp2_with (refine ⟨trivial, ?_⟩; gi_at_call 55; refine (all_in _ _ trivial rfl _ _).mono ?_; rintro e w' ⟨rfl, rfl⟩)
  obtain ⟨W0, hW0⟩ : ∃ W0, (((w.alloc (.cells #[.slice none 0 0, .slice none 0 0, .slice none 0 0] 40)).alloc (.cells #[.slice none 0 0, .slice none 0 0, .slice xp E.length xc] 40)).alloc (.cells #[.pointer (some ⟨t, 0, none⟩)] 97)) = W0 := ⟨_, rfl⟩
  have hsz : W0.heap.size = w.heap.size + 3 := by rw [← hW0]; simp
  have hB0 : Below w.heap.size w W0 := by rw [← hW0]; exact (((Below.refl _ w).alloc (Nat.le_refl _) _).alloc (by simp) _).alloc (by simp; omega) _
  have hR0 : W0.heap[w.heap.size]? = some (.cells #[.slice none 0 0, .slice none 0 0, .slice none 0 0] 40 (0, 0)) := by
    rw [← hW0, Below.heap_alloc _ _ _ (by simp; omega), Below.heap_alloc _ _ _ (by simp)]; exact World.alloc_heap_new w _
  have hG0 : W0.heap[w.heap.size + 1]? = some (.cells #[.slice none 0 0, .slice none 0 0, .slice xp E.length xc] 40 (0, 0)) := by
    rw [← hW0, Below.heap_alloc _ _ _ (by simp)]
    have := World.alloc_heap_new (w.alloc (.cells #[.slice none 0 0, .slice none 0 0, .slice none 0 0] 40)) (.cells #[.slice none 0 0, .slice none 0 0, .slice xp E.length xc] 40)
    rwa [World.size_alloc] at this
  have hP0 : W0.cell? ⟨w.heap.size + 1 + 1, 0, none⟩ = some (.pointer (some ⟨t, 0, none⟩)) := by
    have := World.alloc_heap_new ((w.alloc (.cells #[.slice none 0 0, .slice none 0 0, .slice none 0 0] 40)).alloc (.cells #[.slice none 0 0, .slice none 0 0, .slice xp E.length xc] 40)) (.cells #[.pointer (some ⟨t, 0, none⟩)] 97)
    rw [World.size_alloc, World.size_alloc, hW0] at this
    simp [World.cell?, this]
  have htl : t < w.heap.size := (Array.getElem?_eq_some_iff.1 htb).1
  have hT0 : W0.cell? ⟨t, 0, none⟩ = some (.slice p T.length cap) := by
    rw [hB0.cell (p := ⟨t, 0, none⟩) htl]; simp [World.cell?, htb]
  have hC0 : ∀ j (hj : j < T.length), ∃ g, p = some ⟨g, 0, none⟩ ∧ g < w.heap.size ∧ W0.cell? ⟨g, j * 2, none⟩ = some (.int .i32 T[j].1) ∧ W0.cell? ⟨g, j * 2 + 1, none⟩ = some (.int .i64 T[j].2) := fun j hj => by
    obtain ⟨g, e, c0, c1⟩ := hents j hj
    have hg := World.block_lt_of_cell? w _ c0
    exact ⟨g, e, hg, (hB0.cell (p := ⟨g, j * 2, none⟩) hg).trans c0, (hB0.cell (p := ⟨g, j * 2 + 1, none⟩) hg).trans c1⟩
  have hE0 := own_below hE hB0
  rw [hW0]
  clear hW0 hents htb hto
  refine wpIn_rangeFunc_ownG rfl (by omega) (gf := 76) (lb := #[.pointer (some ⟨w.heap.size + 1 + 1, 0, none⟩)]) rfl trivial (enters_of Tryd.func76 (by kernel_rfl) rfl)
    (all_stops _ _ trivial rfl (by omega) (w.heap.size + 1 + 1) t w.heap.size p cap T (by omega) W0 (by omega) (by omega) (by omega) hP0 hT0 hC0) belowK_t (belowK_b (by omega)) (Below.refl _ _) (fun _ => rfl)
    (fun pre W => (∃ v u, G2 W (w.heap.size + 1) v u (.slice xp E.length xc) pre) ∧ Below (w.heap.size + 1) W0 W)
    (fun _ _ _ => False)
    (OwnFrom.and (Own.from (G2.own _ _) _) (ownFrom_below (by omega) (by omega)))
    (fun _ _ _ _ _ hs _ _ => hs)
    ⟨⟨_, _, ⟨by omega, hG0, World.ownsRow_nil _ _ _ _, World.ownsRow_nil _ _ _ _⟩⟩, Below.refl _ _⟩
    (fun y => { tmps := #[.pointer (some ⟨t, 0, none⟩), .slice xp E.length xc, undef, undef, .pointer (some ⟨w.heap.size, 0, none⟩), .pointer (some ⟨w.heap.size + 1, 0, none⟩), .int .i32 y.1, .int .i64 y.2, .slice xp E.length xc, .agg #[.slice none 0 0, .slice none 0 0, .slice xp E.length xc], .pointer (some ⟨t, 0, none⟩), .func (.func 76) #[] #[.pointer (some ⟨w.heap.size + 1 + 1, 0, none⟩)], .int .i32 y.1, .int .i64 y.2, undef, undef, undef, undef, undef, undef, undef, undef, undef, undef, undef, undef, undef, undef, undef, undef], defers := [] }) ?assign ?body ?done ?stop
  case assign =>
    intro l y W K hK
    gi_wp2
    exact hK
  case body =>
    rintro l pre y W ⟨⟨v, u, hG⟩, hBW⟩ hlt
    obtain ⟨pv, kv, rfl, _⟩ := own_slice hG.r0
    obtain ⟨pu, ku, rfl, _⟩ := own_slice hG.r1
    obtain ⟨c0, c1, c2, cf⟩ := blk3_cell hG.blk
    have hGl := hG.lt
    gi_wp2_with (first
      | (gi_at_builtin; refine wpListIn_append_own _ rfl _ _ 36 rfl (w.heap.size + 1 + 1) 21 i0 (.int .i32 0) 1 4 Tryd.underlying36 hi0 hz0 hz1 hz2 rfl (by decide) (.slice pv pre.length kv) _ _ rfl (hG.r0.alloc _) ⟨W.heap.size, 0, none⟩ 1 1 [.int .i32 y.1] rfl rfl (cell_one_new _ _ _) (by simp [Value.oneCell']) (by unfold maxLen; omega) (by omega) (by simp; omega) ?_; intro v' w1 hown1 hgrow1 _; obtain ⟨g1, cap1, rfl⟩ := ownsRow_succ hown1; obtain ⟨b1, b2, r2, s2, l2, m2⟩ := hG.half hown1 hgrow1; obtain ⟨q0, q1, q2, qf⟩ := blk3_cell b1; have qf0 := qf 0; obtain ⟨p0, p1, p2, pf⟩ := blk3_cell b2; have pf1 := pf 1)
      | (gi_at_builtin; refine wpListIn_append_own _ rfl _ _ 37 rfl (w.heap.size + 1 + 1) 2 i1 (.int .i64 0) 1 8 Tryd.underlying37 hi1 hy0 hy1 hy2 rfl (by decide) (.slice pu pre.length ku) _ _ rfl (s2.alloc _) ⟨w1.heap.size, 0, none⟩ 1 1 [.int .i64 y.2] rfl rfl (one_new_set _ _ _ _ _) (by simp [Value.oneCell']) (by unfold maxLen; omega) (by omega) (by simp [World.setCell]; omega) ?_; intro u' w2 hown2 hgrow2 _; obtain ⟨g2, cap2, rfl⟩ := ownsRow_succ hown2; obtain ⟨b3, hG3⟩ := G2.full (p := y) (by simp [World.setCell]; omega) b2 r2 s2 hown2 hgrow2; obtain ⟨e0, e1, e2, ef⟩ := blk3_cell b3; have ef1 := ef 1))
    exact ⟨((keeps_ap hG.r0 hgrow1 _ _).trans (keeps_ap s2 hgrow2 _ _)).from _, (below_ap (below_ap ((Below.refl _ _)) hGl hG.r0 hgrow1 0 _) (by simp [World.setCell]; omega) s2 hgrow2 1 _).mono (by omega), ⟨_, _, hG3⟩, below_ap (below_ap hBW hGl hG.r0 hgrow1 0 _) (by simp [World.setCell]; omega) s2 hgrow2 1 _⟩
  case done =>
    rintro D ys W hD rfl ⟨⟨v, u, hG⟩, hBW⟩ hK
    obtain ⟨pv, kv, rfl, _⟩ := own_slice hG.r0
    obtain ⟨pu, ku, rfl, _⟩ := own_slice hG.r1
    obtain ⟨c0, c1, c2, cf⟩ := blk3_cell hG.blk
    have hBw : Below w.heap.size w W := hB0.trans (hBW.mono (by omega))
    have hE1 := own_below hE hBw
    have hRW : W.heap[w.heap.size]? = some (.cells #[.slice none 0 0, .slice none 0 0, .slice none 0 0] 40 (0, 0)) := (hBW.block _ (by omega)).trans hR0
    have hDl := (Array.getElem?_eq_some_iff.1 hK).1
    have hGl := hG.lt
    have hxo : ∀ k, w.heap.size ≤ k → some k ≠ (Value.slice xp E.length xc).ownBlock := fun k hk e => by have := (hE.lt k e.symm).2; omega
    gi_wp2_with (refine ⟨trivial, ?_⟩; gi_at_call 56; refine (callsIn_wide.2 (sortEdges B E.length _ E _ rfl hE1 hEl)).mono ?_; rintro e W1 ⟨rfl, Y, hE2, hg2, hSt, hOrd⟩; have hb1 := (hg2.block _ hGl (hxo _ (by omega))).trans hG.blk; obtain ⟨k0, k1, k2, kf⟩ := blk3_cell hb1; have hr1 := (hg2.block w.heap.size (by omega) (hxo _ (by omega))).trans hRW; obtain ⟨n0, n1, n2, nf⟩ := blk3_cell hr1; have nf0 := nf 0; have nf1 := nf 1; have nf2 := nf 2)
    have hK1 := (hg2.block D hDl (hxo _ (by omega))).trans hK
    have hs2 := hg2.size
    obtain ⟨W2, hW2⟩ : ∃ W2, set3 W1 w.heap.size (.slice pv ys.length kv) (.slice pu ys.length ku) (.slice xp E.length xc) = W2 := ⟨_, rfl⟩
    have hg3 : W1.grownBy W2 (some w.heap.size) := by rw [← hW2]; exact set3_grown _ _ _ _ _
    have hR2 : W2.heap[w.heap.size]? = some (.cells #[.slice pv ys.length kv, .slice pu ys.length ku, .slice xp E.length xc] 40 (0, 0)) := by rw [← hW2]; exact set3_blk hr1 _ _ _
    have hs3 := hg3.size
    have hK2 := (hg3.block D (by omega) (by simp; omega)).trans hK1
    have hR3 := ((grownBy_putObj' W2 D (.deferred none)).block w.heap.size (by omega) (by simp; omega)).trans hR2
    obtain ⟨m0, m1, m2, _⟩ := blk3_cell hR3
    show bodyPostM _ _ _ _ _ _ _ (set3 W1 w.heap.size (.slice pv ys.length kv) (.slice pu ys.length ku) (.slice xp E.length xc))
    rw [hW2]
    refine ⟨by simp, .inl ⟨_, _, rfl, run_takeDeferred hK2, ?_⟩⟩
    refine ⟨graphVal (.slice pv ys.length kv) (.slice pu ys.length ku) (.slice xp E.length xc), by simp [results, Tryd.results42, go_sem, graphVal, m0, m1, m2], .slice pv ys.length kv, .slice pu ys.length ku, Y, rfl, ?_, ?_, ?_, hSt, hOrd, ?_⟩
    · exact own_base (ownsRow_putObj ((own_app hE1 hG.r0 (by decide) hg2).kept hg3 (.inr (own_not (own_app hE1 hG.r0 (by decide) hg2) (by omega)).symm)) _ hK2 rfl) (by omega)
    · exact own_base (ownsRow_putObj ((own_app hE1 hG.r1 (by decide) hg2).kept hg3 (.inr (own_not (own_app hE1 hG.r1 (by decide) hg2) (by omega)).symm)) _ hK2 rfl) (by omega)
    · exact ownsRow_putObj (hE2.kept hg3 (.inr (hxo _ (Nat.le_refl _)).symm)) _ hK2 rfl
    · exact ((((hBw.mono hB).grown hg2 (by omega) (fun k hk => (hE1.lt k hk).1)).grown hg3 (by omega) (fun k hk => by cases hk; exact hB))).grown (grownBy_putObj' W2 D _) (by omega) (fun k hk => by cases hk; omega)
  case stop =>
    rintro D c pre W _ _ h _
    exact h.elim
end Go.Proofs.YteflnddphpjahaaDoor
