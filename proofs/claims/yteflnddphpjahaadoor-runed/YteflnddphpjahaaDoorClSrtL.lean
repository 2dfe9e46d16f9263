import Derived.Test.YteflnddphpjahaaDoorClSrtG
import Derived.Test.YteflnddphpjahaaDoorClSrtK
/-
  slices.stableCmpFunc, slices.SortStableFunc at edges.
-/
set_option linter.unusedVariables false
set_option linter.unusedSimpArgs false
set_option maxRecDepth 100000
namespace Go.Proofs.YteflnddphpjahaaDoor
open Go.RowKit

/-- Blocks of s up to p, each in order. -/
def Done (Y : List Sp.Ed) (s p : Nat) : Prop := ∀ C : Nat → Prop, C 0 → (∀ q, C q → Ord Y q (q + s) → C (q + s)) → C p
theorem Done.zero {Y : List Sp.Ed} {s : Nat} : Done Y s 0 := fun _ h _ => h
theorem Done.step {Y : List Sp.Ed} {s p : Nat} (h : Done Y s p) (o : Ord Y p (p + s)) : Done Y s (p + s) := fun C h0 h1 => h1 p (h C h0 h1) o
def Bl (Y : List Sp.Ed) (s n p : Nat) : Prop := ∀ C : Nat → Prop, (∀ q, n ≤ q + s → Ord Y q n → C q) → (∀ q, q + s ≤ n → Ord Y q (q + s) → C (q + s) → C q) → C p
theorem Bl.last {Y : List Sp.Ed} {s n p : Nat} (h : n ≤ p + s) (o : Ord Y p n) : Bl Y s n p := fun _ h1 _ => h1 p h o
theorem Bl.more {Y : List Sp.Ed} {s n p : Nat} (h : p + s ≤ n) (o : Ord Y p (p + s)) (b : Bl Y s n (p + s)) : Bl Y s n p := fun C h1 h2 => h2 p h o (b C h1 h2)
theorem Bl.inv {Y : List Sp.Ed} {s n p : Nat} (h : Bl Y s n p) : (n ≤ p + s ∧ Ord Y p n) ∨ (p + s ≤ n ∧ Ord Y p (p + s) ∧ Bl Y s n (p + s)) :=
  h (fun p => (n ≤ p + s ∧ Ord Y p n) ∨ (p + s ≤ n ∧ Ord Y p (p + s) ∧ Bl Y s n (p + s))) (fun q h1 h2 => Or.inl ⟨h1, h2⟩) fun q h1 h2 h3 => Or.inr ⟨h1, h2, h3.elim (fun e => .last e.1 e.2) (fun e => .more e.1 e.2.1 e.2.2)⟩
theorem ord_same {Y Z : List Sp.Ed} {a b : Nat} (h : Ord Y a b) (k : ∀ t, a ≤ t → t < b → Z[t]? = Y[t]?) : Ord Z a b := by
  intro s t x y h1 h2 h3 hx hy
  rw [k s (by omega) (by omega)] at hx; rw [k t (by omega) (by omega)] at hy
  exact h _ _ _ _ h1 h2 h3 hx hy
theorem Done.same {Y Z : List Sp.Ed} {s p : Nat} (h : Done Y s p) (k : ∀ t, t < p → Z[t]? = Y[t]?) : Done Z s p :=
  h (fun p => (∀ t, t < p → Z[t]? = Y[t]?) → Done Z s p) (fun _ => .zero) (fun q ih o k => .step (ih (fun t ht => k t (by omega))) (ord_same o (fun t _ ht => k t ht))) k
theorem Bl.same {Y Z : List Sp.Ed} {s n p : Nat} (h : Bl Y s n p) (k : ∀ t, p ≤ t → Z[t]? = Y[t]?) : Bl Z s n p :=
  h (fun p => (∀ t, p ≤ t → Z[t]? = Y[t]?) → Bl Z s n p) (fun q h1 h2 k => .last h1 (ord_same h2 (fun t ht _ => k t ht))) (fun q h1 h2 ih k => .more h1 (ord_same h2 (fun t ht _ => k t ht)) (ih (fun t ht => k t (by omega)))) k
theorem Done.bl {Y : List Sp.Ed} {s n p : Nat} (h : Done Y s p) (hp : p ≤ n) (k : Bl Y s n p) : Bl Y s n 0 :=
  h (fun p => p ≤ n → Bl Y s n p → Bl Y s n 0) (fun _ k => k) (fun q ih o hp k => ih (by omega) (.more hp o k)) hp k
theorem Bl.fin {Y : List Sp.Ed} {s n p : Nat} (h : Bl Y s n p) (hp : n ≤ p + s) : Ord Y p n := by
  rcases h.inv with ⟨h1, h2⟩ | ⟨h1, h2, h3⟩
  · exact h2
  · rw [show n = p + s by omega]; exact h2
theorem Bl.two {Y : List Sp.Ed} {s n p : Nat} (h : Bl Y s n p) (hs : 0 < s) (hp : p + 2 * s ≤ n) : Ord Y p (p + s) ∧ Ord Y (p + s) (p + 2 * s) ∧ Bl Y s n (p + 2 * s) := by
  rcases h.inv with ⟨h1, h2⟩ | ⟨h1, h2, h3⟩
  · omega
  · refine ⟨h2, ?_⟩
    rcases h3.inv with ⟨k1, k2⟩ | ⟨k1, k2, k3⟩
    · obtain rfl : n = p + 2 * s := by omega
      exact ⟨k2, .last (by omega) (fun a b x y e1 e2 e3 => by omega)⟩
    · rw [show p + s + s = p + 2 * s by omega] at k2 k3
      exact ⟨k2, k3⟩
theorem Bl.one {Y : List Sp.Ed} {s n p : Nat} (h : Bl Y s n p) (hp : p + s < n) (hp2 : n < p + 2 * s) : Ord Y p (p + s) ∧ Ord Y (p + s) n := by
  rcases h.inv with ⟨h1, h2⟩ | ⟨h1, h2, h3⟩
  · omega
  · exact ⟨h2, h3.fin (by omega)⟩
theorem insertion_at (g cap B a b N : Nat) (a' b' : Int) (X : List Sp.Ed) (w : World) (ha : a' = (a : Int)) (hb' : b' = (b : Int)) (hX : X.length = N) (h : w.ownsRow B 58 3 (.slice (some ⟨g, 0, none⟩) N cap) N (edCells X)) (hab : a ≤ b) (hb : b ≤ N) (hl : N ≤ 5000) :
    Calls Tryd.prog 126 #[.slice (some ⟨g, 0, none⟩) N cap, .int .i64 a', .int .i64 b', .func (.func 57) #[] #[]] w (SrtPost g cap B N a b X w) := by
  subst ha hb'
  exact insertion_any g cap B a b N X w hX h hab hb hl
theorem symMerge_at (g cap B a m b N : Nat) (a' m' b' : Int) (X : List Sp.Ed) (w : World) (ha : a' = (a : Int)) (hm : m' = (m : Int)) (hb' : b' = (b : Int)) (hX : X.length = N) (h : w.ownsRow B 58 3 (.slice (some ⟨g, 0, none⟩) N cap) N (edCells X)) (ham : a < m) (hmb : m < b) (hb : b ≤ N) (hl : N ≤ 5000) (h1 : Ord X a m) (h2 : Ord X m b) :
    Calls Tryd.prog 127 #[.slice (some ⟨g, 0, none⟩) N cap, .int .i64 a', .int .i64 m', .int .i64 b', .func (.func 57) #[] #[]] w (SymPost g cap B N a b X w) := by
  subst ha hm hb'
  exact symMerge_any g cap B N hl _ a m b X w (Nat.le_refl _) hX h ham hmb hb h1 h2

def StPost (g cap B N : Nat) (X : List Sp.Ed) (w : World) (e : Ending) (w' : World) : Prop :=
  e = .returned (.tuple #[]) ∧ ∃ Y, w'.ownsRow B 58 3 (.slice (some ⟨g, 0, none⟩) N cap) N (edCells Y) ∧ w.grownBy w' (some g) ∧ St X Y ∧ Ord Y 0 N

set_option maxHeartbeats 2000000 in
theorem stable_any (g cap B N : Nat) (X : List Sp.Ed) (w : World) (hX : X.length = N) (h : w.ownsRow B 58 3 (.slice (some ⟨g, 0, none⟩) N cap) N (edCells X)) (hl : N ≤ 5000) :
    Calls Tryd.prog 77 #[.slice (some ⟨g, 0, none⟩) N cap, .int .i64 N, .func (.func 57) #[] #[]] w (StPost g cap B N X w) := by
  have HX := hide hX
  clear hX
  go_enter Tryd.func77, Tryd.ntmps77
  go_wp2
  go_loopw [7, 8] (fun u v wr => ∃ (a : Nat) (Y : List Sp.Ed), u = .int .i64 a ∧ v = .int .i64 ((a + 20 : Nat) : Int) ∧ a ≤ N ∧ wr.ownsRow B 58 3 (.slice (some ⟨g, 0, none⟩) N cap) N (edCells Y) ∧ w.grownBy wr (some g) ∧ Hid (Y.length = N) ∧ Hid (St X Y) ∧ Hid (Done Y 20 a)) (fun u _ _ => N - (intOf u).toNat)
  case atStart => exact ⟨0, X, rfl, rfl, Nat.zero_le _, h, grown_refl _ _, HX, St.refl _, .zero⟩
  case round =>
    obtain ⟨a, Y, rfl, rfl, haN, ho, hgr, HY, HST, HD⟩ := hrel
    clear h
    by_cases hlt : a + 20 ≤ N
    · have hltz : (a : Int) + 20 ≤ (N : Int) := by omega
      go_wp2_with (go_at_call 126; refine (insertion_at g cap B a (a + 20) N _ _ Y _ (by omega) (by omega) (unhide HY) ho (by omega) (by omega) hl).mono ?_; rintro e w2 ⟨rfl, Z, ho2, hg2, hS2, hO2, hU2⟩; have HS2 := hide hS2; have HO2 := hide hO2; have HU2 := hide hU2; clear hS2 hO2 hU2)
      go_roundw
      case rel => exact ⟨a + 20, Z, by go_num, by go_num, by omega, ho2, grown_trans hgr hg2, (unhide HS2).1.trans (unhide HY), (unhide HST).trans (unhide HS2), .step ((unhide HD).same (fun t ht => (unhide HU2) t (Or.inl ht))) (unhide HO2)⟩
      case measure => simp [intOf]; omega
    · have hltz : ¬ (a : Int) + 20 ≤ (N : Int) := by omega
      go_wp2_with (go_at_call 126; refine (insertion_at g cap B a N N _ _ Y _ (by omega) (by omega) (unhide HY) ho (by omega) (by omega) hl).mono ?_; rintro e w2 ⟨rfl, Z, ho2, hg2, hS2, hO2, hU2⟩; have HS2 := hide hS2; have HO2 := hide hO2; have HU2 := hide hU2; clear hS2 hO2 hU2)
      have HB : Hid (Bl Z 20 N 0) := ((unhide HD).same (fun t ht => (unhide HU2) t (Or.inl ht))).bl haN (.last (by omega) (unhide HO2))
      have HS3 := hide ((unhide HST).trans (unhide HS2))
      have HZl : Hid (Z.length = N) := (unhide HS2).1.trans (unhide HY)
      have hgw := grown_trans hgr hg2
      clear HO2 HU2 HS2 HD ho hgr HY HST hltz hlt haN hg2
      go_loopw [6] (fun u wr => ∃ (s : Nat) (Y : List Sp.Ed), u = .int .i64 s ∧ 20 ≤ s ∧ s ≤ 20000 ∧ wr.ownsRow B 58 3 (.slice (some ⟨g, 0, none⟩) N cap) N (edCells Y) ∧ w.grownBy wr (some g) ∧ Hid (Y.length = N) ∧ Hid (St X Y) ∧ Hid (Bl Y s N 0)) (fun u _ => 20000 - (intOf u).toNat)
      case atStart => exact ⟨20, Z, rfl, Nat.le_refl _, by omega, ho2, hgw, HZl, HS3, HB⟩
      case round =>
        obtain ⟨s, Y, rfl, hs20, hsm, ho, hgr, HY, HST, HB⟩ := hrel
        clear ho2 hgw HZl HS3
        by_cases hlt : s < N
        · have hltz : (s : Int) < (N : Int) := by omega
          have hw1 : IntKind.i64.wrap (2 * (s : Int)) = 2 * (s : Int) := by rw [IntKind.wrap_i64]; omega
          have hw2 : IntKind.i64.wrap ((s : Int) * 2) = (s : Int) * 2 := by rw [IntKind.wrap_i64]; omega
          go_wp2
          go_loopw [7, 8] (fun u v wr2 => ∃ (a : Nat) (Z : List Sp.Ed), u = .int .i64 a ∧ v = .int .i64 ((a + 2 * s : Nat) : Int) ∧ a ≤ N ∧ wr2.ownsRow B 58 3 (.slice (some ⟨g, 0, none⟩) N cap) N (edCells Z) ∧ w.grownBy wr2 (some g) ∧ Hid (Z.length = N) ∧ Hid (St X Z) ∧ Hid (Done Z (2 * s) a) ∧ Hid (Bl Z s N a)) (fun u _ _ => N - (intOf u).toNat)
          case atStart => exact ⟨0, Y, rfl, by go_num, Nat.zero_le _, ho, hgr, HY, HST, .zero, HB⟩
          case round =>
            obtain ⟨a, Z, rfl, rfl, haN, ho2, hg2, HZ, HST2, HD, HB2⟩ := hrel
            clear ho hgr
            have hw3 : IntKind.i64.wrap ((a : Int) + (s : Int)) = (a : Int) + (s : Int) := by rw [IntKind.wrap_i64]; omega
            by_cases hlt2 : a + 2 * s ≤ N
            · have hlt2z : (a : Int) + 2 * (s : Int) ≤ (N : Int) := by omega
              have HT := hide ((unhide HB2).two (by omega) hlt2)
              go_wp2_with (go_at_call 127; refine (symMerge_at g cap B a (a + s) (a + 2 * s) N _ _ _ Z _ (by omega) (by omega) (by omega) (unhide HZ) ho2 (by omega) (by omega) (by omega) hl (unhide HT).1 (unhide HT).2.1).mono ?_; rintro e w3 ⟨rfl, Z', ho3, hg3, hM3⟩; have HM3 := hide hM3; clear hM3)
              go_roundw
              case rel => exact ⟨a + 2 * s, Z', by go_num, by go_num, by omega, ho3, grown_trans hg2 hg3, (unhide HM3).1.1.trans (unhide HZ), (unhide HST2).trans (unhide HM3).1, .step ((unhide HD).same (fun t ht => (unhide HM3).2.2.1 t (Or.inl ht))) (unhide HM3).2.1, (unhide HT).2.2.same (fun t ht => (unhide HM3).2.2.1 t (Or.inr ht))⟩
              case measure => simp [intOf]; omega
            · have hlt2z : ¬ (a : Int) + 2 * (s : Int) ≤ (N : Int) := by omega
              by_cases hlt3 : a + s < N
              · have hlt3z : (a : Int) + (s : Int) < (N : Int) := by omega
                have HT := hide ((unhide HB2).one hlt3 (by omega))
                go_wp2_with (go_at_call 127; refine (symMerge_at g cap B a (a + s) N N _ _ _ Z _ (by omega) (by omega) (by omega) (unhide HZ) ho2 (by omega) (by omega) (by omega) hl (unhide HT).1 (unhide HT).2).mono ?_; rintro e w3 ⟨rfl, Z', ho3, hg3, hM3⟩; have HM3 := hide hM3; clear hM3)
                go_roundw
                case rel => exact ⟨2 * s, Z', by go_num, by omega, by omega, ho3, grown_trans hg2 hg3, (unhide HM3).1.1.trans (unhide HZ), (unhide HST2).trans (unhide HM3).1, ((unhide HD).same (fun t ht => (unhide HM3).2.2.1 t (Or.inl ht))).bl haN (.last (by omega) (unhide HM3).2.1)⟩
                case measure => simp [intOf]; omega
              · have hlt3z : ¬ (a : Int) + (s : Int) < (N : Int) := by omega
                go_wp2
                go_roundw
                case rel => exact ⟨2 * s, Z, by go_num, by omega, by omega, ho2, hg2, HZ, HST2, (unhide HD).bl haN (.last (by omega) ((unhide HB2).fin (by omega)))⟩
                case measure => simp [intOf]; omega
        · have hltz : ¬ (s : Int) < (N : Int) := by omega
          go_wp2
          go_end0
          exact ⟨rfl, Y, ho, hgr, unhide HST, (unhide HB).fin (by omega)⟩

theorem sortStable_any (g cap B N : Nat) (X : List Sp.Ed) (w : World) (hX : X.length = N) (h : w.ownsRow B 58 3 (.slice (some ⟨g, 0, none⟩) N cap) N (edCells X)) (hl : N ≤ 5000) :
    Calls Tryd.prog 56 #[.slice (some ⟨g, 0, none⟩) N cap, .func (.func 57) #[] #[]] w (StPost g cap B N X w) := by
  have HX := hide hX
  clear hX
  go_enter Tryd.func56, Tryd.ntmps56
  go_wp2_with (go_at_call 77; refine (stable_any g cap B N X _ (unhide HX) h hl).mono ?_; rintro e w2 ⟨rfl, hq⟩)
  go_end0
  exact ⟨rfl, hq⟩
theorem insertion_nil (fv : Value) (w : World) : Calls Tryd.prog 126 #[.slice none 0 0, .int .i64 0, .int .i64 0, fv] w fun e w' => e = .returned (.tuple #[]) ∧ w' = w := by
  go_enter Tryd.func126, Tryd.ntmps126
  go_wp2
  refine wp_loop_rounds 1 ?_
  rw [rounds_succ]
  go_wp2
  go_end0
  exact ⟨rfl, rfl⟩
theorem stable_nil (fv : Value) (w : World) : Calls Tryd.prog 77 #[.slice none 0 0, .int .i64 0, fv] w fun e w' => e = .returned (.tuple #[]) ∧ w' = w := by
  go_enter Tryd.func77, Tryd.ntmps77
  go_wp2
  refine wp_loop_rounds 1 ?_
  rw [rounds_succ]
  go_wp2_with (go_at_call 126; refine (insertion_nil _ _).mono ?_; rintro e w2 ⟨rfl, hw⟩; obtain rfl := hw.symm)
  refine wp_loop_rounds 1 ?_
  rw [rounds_succ]
  go_wp2
  go_end0
  exact ⟨rfl, rfl⟩
theorem sortStable_nil (fv : Value) (w : World) : Calls Tryd.prog 56 #[.slice none 0 0, fv] w fun e w' => e = .returned (.tuple #[]) ∧ w' = w := by
  go_enter Tryd.func56, Tryd.ntmps56
  go_wp2_with (go_at_call 77; refine (stable_nil _ _).mono ?_; rintro e w2 ⟨rfl, hw⟩; obtain rfl := hw.symm)
  go_end0
  exact ⟨rfl, rfl⟩

/-- Edges, whichever way they lie. -/
theorem sortEdges (B N : Nat) (v : Value) (X : List Sp.Ed) (w : World) (hX : X.length = N) (h : w.ownsRow B 58 3 v N (edCells X)) (hl : N ≤ 5000) :
    Calls Tryd.prog 56 #[v, .func (.func 57) #[] #[]] w fun e w' => e = .returned (.tuple #[]) ∧ ∃ Y, w'.ownsRow B 58 3 v N (edCells Y) ∧ w.grownBy w' v.ownBlock ∧ St X Y ∧ Ord Y 0 N := by
  rcases h.2 with ⟨hv, hn⟩ | ⟨g, cap, cur, hv, _⟩
  · subst hv hn
    refine (sortStable_nil _ w).mono ?_
    rintro e w' ⟨rfl, rfl⟩
    exact ⟨rfl, X, h, grown_refl _ _, St.refl _, fun s t x y e1 e2 e3 => by omega⟩
  · subst hv
    exact sortStable_any g cap B N X w hX h hl
end Go.Proofs.YteflnddphpjahaaDoor
