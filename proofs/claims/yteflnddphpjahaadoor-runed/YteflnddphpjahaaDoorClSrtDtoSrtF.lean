import Derived.Test.YteflnddphpjahaaDoorClSrtBtoSrtC
import Derived.Deep.DeepMust
import Derived.Test.YteflnddphpjahaaDoorClPlJtoPlQ
/-
  Plain facts: ranges exchanged, and rotation (lists alone).
-/
set_option linter.unusedVariables false
set_option linter.unusedSimpArgs false
namespace Go.Proofs.YteflnddphpjahaaDoor

theorem sw_get (X : List Sp.Ed) (i j : Nat) (hi : i < X.length) (hj : j < X.length) (t : Nat) : (sw X i j)[t]? = if t = j then X[i]? else if t = i then X[j]? else X[t]? := by
  unfold sw; rw [dif_pos ⟨hi, hj⟩]
  unfold exch
  by_cases h1 : t = j
  · subst h1; rw [if_pos rfl]; simp [hj]
  · rw [if_neg h1, List.getElem?_set_ne (fun e => h1 e.symm)]
    by_cases h2 : t = i
    · subst h2; rw [if_pos rfl]; simp [hi, hj]
    · rw [if_neg h2, List.getElem?_set_ne (fun e => h2 e.symm)]
theorem swr_get (X : List Sp.Ed) (a b : Nat) : ∀ n, a + n ≤ b → b + n ≤ X.length → ∀ t, (swr X a b n)[t]? = if a ≤ t ∧ t < a + n then X[t + (b - a)]? else if b ≤ t ∧ t < b + n then X[t - (b - a)]? else X[t]? := by
  intro n
  induction n with
  | zero => intro h1 h2 t; rw [if_neg (by omega), if_neg (by omega)]; rfl
  | succ n ih =>
    intro h1 h2 t
    have ih := ih (by omega) (by omega)
    rw [swr, sw_get _ _ _ (by rw [swr_len]; omega) (by rw [swr_len]; omega), ih, ih, ih]
    by_cases c1 : t = b + n
    · subst c1
      rw [if_pos rfl, if_neg (by omega), if_neg (by omega), if_neg (by omega), if_pos (by omega), show b + n - (b - a) = a + n by omega]
    · rw [if_neg c1]
      by_cases c2 : t = a + n
      · subst c2
        rw [if_pos rfl, if_neg (by omega), if_neg (by omega), if_pos (by omega), show a + n + (b - a) = b + n by omega]
      · rw [if_neg c2]
        by_cases c3 : a ≤ t ∧ t < a + n
        · rw [if_pos c3, if_pos (by omega)]
        · rw [if_neg c3, if_neg (by omega : ¬ (a ≤ t ∧ t < a + (n + 1)))]
          by_cases c4 : b ≤ t ∧ t < b + n
          · rw [if_pos c4, if_pos (by omega)]
          · rw [if_neg c4, if_neg (by omega)]
/-- Five pieces: the second and the fourth are exchanged. -/
theorem swr_split (A P M Q B : List Sp.Ed) (h : P.length = Q.length) : swr (A ++ (P ++ (M ++ (Q ++ B)))) A.length (A.length + P.length + M.length) P.length = A ++ (Q ++ (M ++ (P ++ B))) := by
  apply List.ext_getElem?
  intro t
  rw [swr_get _ _ _ _ (by omega) (by simp; omega)]
  by_cases c1 : A.length ≤ t ∧ t < A.length + P.length
  · rw [if_pos c1, show A.length + P.length + M.length - A.length = P.length + M.length by omega]
    rw [List.getElem?_append_right (by omega), List.getElem?_append_right (by omega), List.getElem?_append_right (by omega), List.getElem?_append_left (by omega)]
    rw [List.getElem?_append_right (by omega), List.getElem?_append_left (by omega)]
    congr 1; omega
  · rw [if_neg c1]
    by_cases c2 : A.length + P.length + M.length ≤ t ∧ t < A.length + P.length + M.length + P.length
    · rw [if_pos c2, show A.length + P.length + M.length - A.length = P.length + M.length by omega]
      rw [List.getElem?_append_right (by omega), List.getElem?_append_left (by omega)]
      rw [List.getElem?_append_right (by omega), List.getElem?_append_right (by omega), List.getElem?_append_right (by omega), List.getElem?_append_left (by omega)]
      congr 1; omega
    · rw [if_neg c2]
      by_cases c3 : t < A.length
      · rw [List.getElem?_append_left c3, List.getElem?_append_left c3]
      · by_cases c4 : t < A.length + P.length + M.length
        · rw [List.getElem?_append_right (by omega), List.getElem?_append_right (by omega), List.getElem?_append_left (by omega)]
          rw [List.getElem?_append_right (by omega), List.getElem?_append_right (by omega), List.getElem?_append_left (by omega)]
          congr 1; omega
        · rw [List.getElem?_append_right (by omega), List.getElem?_append_right (by omega), List.getElem?_append_right (by omega), List.getElem?_append_right (by omega)]
          rw [List.getElem?_append_right (by omega), List.getElem?_append_right (by omega), List.getElem?_append_right (by omega), List.getElem?_append_right (by omega)]
          congr 1; omega

/-- The stretch a to m and the stretch m to b change places. -/
def rot (X : List Sp.Ed) (a m b : Nat) : List Sp.Ed := X.take a ++ ((X.take b).drop m ++ ((X.take m).drop a ++ X.drop b))
theorem rot_split (A U V B : List Sp.Ed) : rot (A ++ (U ++ (V ++ B))) A.length (A.length + U.length) (A.length + U.length + V.length) = A ++ (V ++ (U ++ B)) := by
  unfold rot
  have e1 : (A ++ (U ++ (V ++ B))).take A.length = A := by simp
  have e2 : (A ++ (U ++ (V ++ B))).take (A.length + U.length) = A ++ U := by
    rw [← List.append_assoc, List.take_append_of_le_length (by simp <;> omega), List.take_of_length_le (by simp <;> omega)]
  have e3 : (A ++ (U ++ (V ++ B))).take (A.length + U.length + V.length) = A ++ U ++ V := by
    rw [← List.append_assoc, ← List.append_assoc, List.take_append_of_le_length (by simp <;> omega), List.take_of_length_le (by simp <;> omega)]
  have e4 : (A ++ (U ++ (V ++ B))).drop (A.length + U.length + V.length) = B := by
    rw [← List.append_assoc, ← List.append_assoc, List.drop_left' (by simp <;> omega)]
  rw [e1, e2, e3, e4, List.drop_left' (by simp), List.drop_left' (by simp)]
theorem rot_cut (X : List Sp.Ed) (a m b : Nat) (h1 : a ≤ m) (h2 : m ≤ b) (h3 : b ≤ X.length) : ∃ A U V B, X = A ++ (U ++ (V ++ B)) ∧ A.length = a ∧ U.length = m - a ∧ V.length = b - m := by
  refine ⟨X.take a, (X.take m).drop a, (X.take b).drop m, X.drop b, ?_, by simp; omega, by simp; omega, by simp; omega⟩
  have e1 : (X.take b).drop m ++ X.drop b = X.drop m := by
    have := List.take_append_drop b X
    conv => rhs; rw [← this]
    rw [List.drop_append_of_le_length (by simp; omega)]
  have e2 : (X.take m).drop a ++ X.drop m = X.drop a := by
    have := List.take_append_drop m X
    conv => rhs; rw [← this]
    rw [List.drop_append_of_le_length (by simp; omega)]
  rw [e1, e2, List.take_append_drop]
end Go.Proofs.YteflnddphpjahaaDoor
/-
  slices.rotateCmpFunc at edges.
-/
set_option linter.unusedVariables false
set_option linter.unusedSimpArgs false
set_option maxRecDepth 100000
namespace Go.Proofs.YteflnddphpjahaaDoor
open Go.RowKit

theorem rot_gt (Y : List Sp.Ed) (m i j : Nat) (hij : j < i) (him : i ≤ m) (hl : m + j ≤ Y.length) : rot (swr Y (m - i) m j) (m - (i - j)) m (m + j) = rot Y (m - i) m (m + j) := by
  obtain ⟨A, U, V, B, rfl, hA, hU, hV⟩ := rot_cut Y (m - i) m (m + j) (by omega) (by omega) hl
  obtain ⟨U1, U2, rfl, h1⟩ : ∃ U1 U2, U = U1 ++ U2 ∧ U1.length = j := ⟨U.take j, U.drop j, (List.take_append_drop _ _).symm, by simp; omega⟩
  rw [List.length_append] at hU
  have e1 := swr_split A U1 U2 V B (by omega)
  have e2 := rot_split (A ++ V) U2 U1 B
  have e3 := rot_split A (U1 ++ U2) V B
  rw [List.length_append] at e2 e3
  rw [show A.length + U1.length + U2.length = m by omega, h1, hA] at e1
  rw [show A.length + V.length + U2.length = m by omega, show A.length + V.length = m - (i - j) by omega, h1] at e2
  rw [show A.length + (U1.length + U2.length) = m by omega, show m + V.length = m + j by omega, hA] at e3
  rw [e3, List.append_assoc, e1, ← List.append_assoc, e2]
  simp [List.append_assoc]
theorem rot_lt (Y : List Sp.Ed) (m i j : Nat) (hij : i < j) (him : i ≤ m) (hl : m + j ≤ Y.length) : rot (swr Y (m - i) (m + j - i) i) (m - i) m (m + (j - i)) = rot Y (m - i) m (m + j) := by
  obtain ⟨A, U, V, B, rfl, hA, hU, hV⟩ := rot_cut Y (m - i) m (m + j) (by omega) (by omega) hl
  obtain ⟨V1, V2, rfl, h1⟩ : ∃ V1 V2, V = V1 ++ V2 ∧ V1.length = j - i := ⟨V.take (j - i), V.drop (j - i), (List.take_append_drop _ _).symm, by simp; omega⟩
  rw [List.length_append] at hV
  have e1 := swr_split A U V1 V2 B (by omega)
  have e2 := rot_split A V2 V1 (U ++ B)
  have e3 := rot_split A U (V1 ++ V2) B
  rw [List.length_append] at e3
  rw [show A.length + U.length + V1.length = m + j - i by omega, show U.length = i by omega, hA] at e1
  rw [show A.length + V2.length = m by omega, show m + V1.length = m + (j - i) by omega, hA] at e2
  rw [show A.length + U.length = m by omega, show m + (V1.length + V2.length) = m + j by omega, hA] at e3
  rw [e3, List.append_assoc, e1, e2]
  simp [List.append_assoc]
theorem rot_same (Y : List Sp.Ed) (m i : Nat) (him : i ≤ m) (hl : m + i ≤ Y.length) : swr Y (m - i) m i = rot Y (m - i) m (m + i) := by
  obtain ⟨A, U, V, B, rfl, hA, hU, hV⟩ := rot_cut Y (m - i) m (m + i) (by omega) (by omega) hl
  have e1 := swr_split A U [] V B (by omega)
  have e3 := rot_split A U V B
  simp only [List.nil_append, List.length_nil, Nat.add_zero] at e1
  rw [show A.length + U.length = m by omega, show U.length = i by omega, hA] at e1
  rw [show A.length + U.length = m by omega, show m + V.length = m + i by omega, hA] at e3
  rw [e1, e3]
theorem rot_len (X : List Sp.Ed) (a m b : Nat) (h1 : a ≤ m) (h2 : m ≤ b) (h3 : b ≤ X.length) : (rot X a m b).length = X.length := by
  unfold rot; simp; omega

theorem swapRange_at (g cap B a b n N : Nat) (a' b' n' : Int) (X : List Sp.Ed) (fv : Value) (w : World) (ha : a' = (a : Int)) (hb' : b' = (b : Int)) (hn : n' = (n : Int)) (hX : X.length = N) (h : w.ownsRow B 58 3 (.slice (some ⟨g, 0, none⟩) N cap) N (edCells X)) (hab : a + n ≤ b) (hb : b + n ≤ N) (hl : N ≤ 5000) :
    Calls Tryd.prog 146 #[.slice (some ⟨g, 0, none⟩) N cap, .int .i64 a', .int .i64 b', .int .i64 n', fv] w fun e w' => e = .returned (.tuple #[]) ∧
      w'.ownsRow B 58 3 (.slice (some ⟨g, 0, none⟩) N cap) N (edCells (swr X a b n)) ∧ w.grownBy w' (some g) := by
  subst ha hb' hn hX
  exact swapRange_any g cap B a b n X fv w h hab hb hl

set_option maxHeartbeats 1000000 in
theorem rotate_any (g cap B a m b N : Nat) (X : List Sp.Ed) (fv : Value) (w : World) (hX : X.length = N) (h : w.ownsRow B 58 3 (.slice (some ⟨g, 0, none⟩) N cap) N (edCells X)) (ham : a < m) (hmb : m < b) (hb : b ≤ N) (hl : N ≤ 5000) :
    Calls Tryd.prog 135 #[.slice (some ⟨g, 0, none⟩) N cap, .int .i64 a, .int .i64 m, .int .i64 b, fv] w fun e w' => e = .returned (.tuple #[]) ∧
      w'.ownsRow B 58 3 (.slice (some ⟨g, 0, none⟩) N cap) N (edCells (rot X a m b)) ∧ w.grownBy w' (some g) := by
  have HX := hide hX
  clear hX
  go_enter Tryd.func135, Tryd.ntmps135
  go_wp2
  go_loopw [10, 11] (fun u v wr => ∃ (i j : Nat) (Y : List Sp.Ed), u = .int .i64 i ∧ v = .int .i64 j ∧ 0 < i ∧ 0 < j ∧ i ≤ m - a ∧ j ≤ b - m ∧ Hid (Y.length = N) ∧ wr.ownsRow B 58 3 (.slice (some ⟨g, 0, none⟩) N cap) N (edCells Y) ∧ w.grownBy wr (some g) ∧ Hid (rot Y (m - i) m (m + j) = rot X a m b)) (fun u v _ => (intOf u).toNat + (intOf v).toNat)
  case atStart => exact ⟨m - a, b - m, X, by go_num, by go_num, by omega, by omega, by omega, by omega, HX, h, grown_refl _ _, by show _ = _; rw [show m - (m - a) = a by omega, show m + (b - m) = b by omega]⟩
  case round =>
    obtain ⟨i, j, Y, rfl, rfl, hi0, hj0, hi, hj, HY, ho, hgr, HR⟩ := hrel
    have HO := hide ho
    have HGR := hide hgr
    clear ho hgr h
    rcases Nat.lt_trichotomy i j with hij | hij | hij
    · have h1 : ((i : Int) != (j : Int)) = true := by rw [bne_iff_ne]; omega
      go_wp2_with fail
      refine (swapRange_at g cap B (m - i) (m + j - i) i N _ _ _ Y fv _ (by omega) (by omega) (by omega) (unhide HY) (unhide HO) (by omega) (by omega) hl).mono ?_
      rintro e w2 ⟨rfl, ho2, hg2⟩
      go_wp2
      go_roundw
      case rel => exact ⟨i, j - i, _, rfl, by go_num, hi0, by omega, hi, by omega, by show _ = _; rw [swr_len]; exact unhide HY, ho2, grown_trans (unhide HGR) hg2, by show _ = _; rw [← unhide HR]; exact rot_lt Y m i j hij (by omega) (by rw [unhide HY]; omega)⟩
      case measure => simp [intOf]; omega
    · subst hij
      have h1 : ((i : Int) != (i : Int)) = false := by simp
      go_wp2_with fail
      refine (swapRange_at g cap B (m - i) m i N _ _ _ Y fv _ (by omega) (by omega) (by omega) (unhide HY) (unhide HO) (by omega) (by omega) hl).mono ?_
      rintro e w2 ⟨rfl, ho2, hg2⟩
      go_wp2
      go_end0
      refine ⟨rfl, ?_, grown_trans (unhide HGR) hg2⟩
      rw [← unhide HR, ← rot_same Y m i (by omega) (by rw [unhide HY]; omega)]
      exact ho2
    · have h1 : ((i : Int) != (j : Int)) = true := by rw [bne_iff_ne]; omega
      go_wp2_with fail
      refine (swapRange_at g cap B (m - i) m j N _ _ _ Y fv _ (by omega) (by omega) (by omega) (unhide HY) (unhide HO) (by omega) (by omega) hl).mono ?_
      rintro e w2 ⟨rfl, ho2, hg2⟩
      go_wp2
      go_roundw
      case rel => exact ⟨i - j, j, _, by go_num, rfl, by omega, hj0, by omega, hj, by show _ = _; rw [swr_len]; exact unhide HY, ho2, grown_trans (unhide HGR) hg2, by show _ = _; rw [← unhide HR]; exact rot_gt Y m i j hij (by omega) (by rw [unhide HY]; omega)⟩
      case measure => simp [intOf]; omega
end Go.Proofs.YteflnddphpjahaaDoor
/-
  Plain facts: what keeps the edges of each key in their order; the insertion's invariant (lists alone).
-/
set_option linter.unusedVariables false
set_option linter.unusedSimpArgs false
namespace Go.Proofs.YteflnddphpjahaaDoor

/-- As many, and for each key the same edges in the same order. -/
def St (X Y : List Sp.Ed) : Prop := Y.length = X.length ∧ ∀ a b, Y.filter (Sp.isKey a b) = X.filter (Sp.isKey a b)
theorem St.refl (X : List Sp.Ed) : St X X := ⟨rfl, fun _ _ => rfl⟩
theorem St.trans {X Y Z : List Sp.Ed} (h : St X Y) (k : St Y Z) : St X Z := ⟨k.1.trans h.1, fun a b => (k.2 a b).trans (h.2 a b)⟩
def ltE (x y : Sp.Ed) : Prop := x.frm < y.frm ∨ (x.frm = y.frm ∧ x.to < y.to)
theorem ltE_iff (x y : Sp.Ed) : cmpE x y < 0 ↔ ltE x y := cmpE_neg x y
theorem lexle_of_not {x y : Sp.Ed} (h : ¬ ltE x y) : Sp.lexle y x := by unfold ltE at h; unfold Sp.lexle; omega
theorem lexle_of_lt {x y : Sp.Ed} (h : ltE x y) : Sp.lexle x y := by unfold ltE at h; unfold Sp.lexle; omega
theorem lexle_trans {x y z : Sp.Ed} (h : Sp.lexle x y) (k : Sp.lexle y z) : Sp.lexle x z := by unfold Sp.lexle at *; omega
theorem lexle_refl (x : Sp.Ed) : Sp.lexle x x := by unfold Sp.lexle; omega
theorem key_apart {x y : Sp.Ed} (h : ltE x y) (a b : Nat) : ¬ (Sp.isKey a b x = true ∧ Sp.isKey a b y = true) := by
  rintro ⟨h1, h2⟩
  simp [Sp.isKey] at h1 h2
  unfold ltE at h; omega
/-- Two stretches change places, all of the second below all of the first. -/
theorem St_rot (A U V B : List Sp.Ed) (h : ∀ u ∈ U, ∀ v ∈ V, ltE v u) : St (A ++ (U ++ (V ++ B))) (A ++ (V ++ (U ++ B))) := by
  refine ⟨by simp; omega, fun a b => ?_⟩
  simp only [List.filter_append]
  have : U.filter (Sp.isKey a b) = [] ∨ V.filter (Sp.isKey a b) = [] := by
    apply Decidable.byContradiction
    intro hn
    have h1 : U.filter (Sp.isKey a b) ≠ [] := fun e => hn (Or.inl e)
    have h2 : V.filter (Sp.isKey a b) ≠ [] := fun e => hn (Or.inr e)
    obtain ⟨u, hu⟩ := List.exists_mem_of_ne_nil _ h1
    obtain ⟨v, hv⟩ := List.exists_mem_of_ne_nil _ h2
    obtain ⟨u1, u2⟩ := List.mem_filter.1 hu
    obtain ⟨v1, v2⟩ := List.mem_filter.1 hv
    exact key_apart (h u u1 v v1) a b ⟨v2, u2⟩
  rcases this with e | e <;> rw [e] <;> simp
theorem sw_adj (A B : List Sp.Ed) (x y : Sp.Ed) : sw (A ++ (x :: y :: B)) (A.length + 1) A.length = A ++ (y :: x :: B) := by
  apply List.ext_getElem?
  intro t
  rw [sw_get _ _ _ (by simp) (by simp)]
  by_cases c1 : t = A.length
  · subst c1; simp
  · rw [if_neg c1]
    by_cases c2 : t = A.length + 1
    · subst c2; simp
    · rw [if_neg c2]
      by_cases c3 : t < A.length
      · rw [List.getElem?_append_left c3, List.getElem?_append_left c3]
      · rw [List.getElem?_append_right (by omega), List.getElem?_append_right (by omega)]
        obtain ⟨k, hk⟩ : ∃ k, t - A.length = k + 2 := ⟨t - A.length - 2, by omega⟩
        rw [hk]; rfl
theorem cut2 (X : List Sp.Ed) (j : Nat) (hj : j + 1 < X.length) : X = X.take j ++ (X[j] :: X[j + 1] :: X.drop (j + 2)) := by
  rw [← List.drop_eq_getElem_cons hj, ← List.drop_eq_getElem_cons (by omega), List.take_append_drop]
theorem St_sw (X : List Sp.Ed) (j : Nat) (hj : j + 1 < X.length) (h : ltE X[j + 1] X[j]) : St X (sw X (j + 1) j) := by
  have e := cut2 X j hj
  have hl : (X.take j).length = j := by simp; omega
  have e2 := sw_adj (X.take j) (X.drop (j + 2)) X[j] X[j + 1]
  rw [hl, ← e] at e2
  rw [e2]
  have := St_rot (X.take j) [X[j]] [X[j + 1]] (X.drop (j + 2)) (by simpa using h)
  simp only [List.cons_append, List.nil_append] at this
  rw [← e] at this
  exact this

/-- A stretch is in order. -/
def Ord (X : List Sp.Ed) (a b : Nat) : Prop := ∀ s t x y, a ≤ s → s < t → t < b → X[s]? = some x → X[t]? = some y → Sp.lexle x y
/-- .. but for the one at j, of which it is known alone that it is not above those behind it. -/
def OrdBut (X : List Sp.Ed) (a b j : Nat) : Prop := ∀ s t x y, a ≤ s → s < t → t < b → t ≠ j → X[s]? = some x → X[t]? = some y → Sp.lexle x y
theorem ord_but {X : List Sp.Ed} {a i : Nat} (h : Ord X a i) : OrdBut X a (i + 1) i := fun s t x y h1 h2 h3 h4 => h s t x y h1 h2 (by omega)
theorem but_ord {X : List Sp.Ed} {a b j : Nat} (h : OrdBut X a b j) (he : j ≤ a ∨ ∃ p, p + 1 = j ∧ ∃ x y, X[p]? = some x ∧ X[j]? = some y ∧ ¬ ltE y x) : Ord X a b := by
  intro s t x y h1 h2 h3 hx hy
  by_cases ht : t = j
  · rcases he with he | ⟨p, hp, x', y', hx', hy', hn⟩
    · omega
    · subst ht
      rw [hy] at hy'
      injection hy' with hy'
      subst hy'
      by_cases hs : s = p
      · subst hs
        rw [hx] at hx'
        injection hx' with hx'
        subst hx'
        exact lexle_of_not hn
      · exact lexle_trans (h s p x x' h1 (by omega) (by omega) (by omega) hx hx') (lexle_of_not hn)
  · exact h s t x y h1 h2 h3 ht hx hy
theorem but_step {X : List Sp.Ed} {a b j : Nat} (h : OrdBut X a b (j + 1)) (haj : a ≤ j) (hjb : j + 1 < b) (hj : j + 1 < X.length) (hlt : ltE X[j + 1] X[j]) : OrdBut (sw X (j + 1) j) a b j := by
  intro s t x y h1 h2 h3 h4 hx hy
  rw [sw_get _ _ _ hj (by omega)] at hx hy
  rw [if_neg h4] at hy
  have g1 : X[j + 1]? = some X[j + 1] := List.getElem?_eq_getElem hj
  have g0 : X[j]? = some X[j] := List.getElem?_eq_getElem (by omega)
  by_cases t1 : t = j + 1
  · rw [if_pos t1, g0] at hy
    injection hy with hy
    subst hy
    by_cases s0 : s = j
    · rw [if_pos s0, g1] at hx
      injection hx with hx
      subst hx
      exact lexle_of_lt hlt
    · rw [if_neg s0, if_neg (by omega)] at hx
      exact h s j _ _ h1 (by omega) (by omega) (by omega) hx g0
  · rw [if_neg t1] at hy
    by_cases s0 : s = j
    · rw [if_pos s0, g1] at hx
      injection hx with hx
      subst hx
      exact h (j + 1) t _ _ (by omega) (by omega) h3 t1 g1 hy
    · rw [if_neg s0] at hx
      by_cases s1 : s = j + 1
      · rw [if_pos s1, g0] at hx
        injection hx with hx
        subst hx
        exact h j t _ _ haj (by omega) h3 t1 g0 hy
      · rw [if_neg s1] at hx
        exact h s t _ _ h1 h2 h3 t1 hx hy
end Go.Proofs.YteflnddphpjahaaDoor
