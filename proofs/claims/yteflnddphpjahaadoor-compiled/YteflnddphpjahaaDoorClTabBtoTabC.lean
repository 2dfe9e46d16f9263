import Derived.Test.YteflnddphpjahaaDoorClTabA
import Derived.Outline
import Derived.Deep.DeepMust
import Derived.Test.YteflnddphpjahaaDoorClComtoCopyK
import Derived.Shelf.Spec.SlicesInsertGrow
/-
  The program's table of runes in memory: Place, Len.
-/
set_option linter.unusedVariables false
set_option linter.unusedSimpArgs false
set_option maxRecDepth 100000
namespace Go.Proofs.YteflnddphpjahaaDoor
open Go.RowKit

def tbCells (T : Sp.Tb) : List Value := T.flatMap fun p => [.int .i32 p.1, .int .i64 p.2]
theorem tb_len (T : Sp.Tb) : (tbCells T).length = T.length * 2 := by
  induction T with
  | nil => rfl
  | cons p t ih => simp [tbCells] at ih ⊢; omega
theorem tb_append (A B : Sp.Tb) : tbCells (A ++ B) = tbCells A ++ tbCells B := by simp [tbCells]
theorem tb_get (T : Sp.Tb) : ∀ j (h : j < T.length), (tbCells T)[j * 2]? = some (.int .i32 (T[j]).1) ∧ (tbCells T)[j * 2 + 1]? = some (.int .i64 (T[j]).2) := by
  induction T with
  | nil => intro j h; simp at h
  | cons p t ih =>
    intro j h
    have e : tbCells (p :: t) = .int .i32 p.1 :: .int .i64 p.2 :: tbCells t := by simp [tbCells]
    rw [e]
    cases j with
    | zero => simp
    | succ j =>
      have := ih j (by simpa using h)
      rw [show (j + 1) * 2 = j * 2 + 1 + 1 by omega]
      simpa using this
theorem tb_one (T : Sp.Tb) : ∀ u ∈ tbCells T, u.oneCell' = true := by
  intro u hu
  obtain ⟨p, _, hp⟩ := List.mem_flatMap.1 hu
  simp at hp
  rcases hp with rfl | rfl <;> rfl

/-- The table stands at block t, its entries in a row of the caller's own from B on. -/
def TabAt (w : World) (B t : Nat) (T : Sp.Tb) : Prop :=
  ∃ v, w.heap[t]? = some (.cells #[v] 135 (0, 0)) ∧ w.ownsRow B 160 2 v T.length (tbCells T)

theorem ents_of_own {w : World} {B : Nat} {v : Value} {T : Sp.Tb} (h : w.ownsRow B 160 2 v T.length (tbCells T)) : ∃ p cap, v = .slice p T.length cap ∧ EntsAt w p T := by
  have h' := h
  rcases h.2 with ⟨hv, hn⟩ | ⟨g, cap, cur, hv, _⟩
  · subst hv
    refine ⟨none, 0, by rw [hn], fun j hj => by omega⟩
  · subst hv
    refine ⟨some ⟨g, 0, none⟩, cap, rfl, fun j hj => ⟨g, rfl, ?_, ?_⟩⟩
    · rw [h'.cellAt _ (by omega)]; exact (tb_get T j hj).1
    · rw [h'.cellAt _ (by omega)]; exact (tb_get T j hj).2

theorem TabAt.below {w w' : World} {B t : Nat} {T : Sp.Tb} (h : TabAt w B t T) (hb : Below w.heap.size w w') : TabAt w' B t T := by
  obtain ⟨v, h1, h2⟩ := h
  exact ⟨v, (hb.block t (lt_of_block h1)).trans h1, own_below h2 hb⟩

theorem tab_cell {w : World} {t : Nat} {v : Value} {e : TypeId} (h : w.heap[t]? = some (.cells #[v] e (0, 0))) : w.cell? ⟨t, 0, none⟩ = some v := by
  rw [cell_of_row w t 0 _ _ _ h]; rfl

theorem tplace_any (t B : Nat) (T : Sp.Tb) (y : Int) (w : World) (h : TabAt w B t T) (hT : Sp.tsorted T) (hl : T.length ≤ 100000) :
    Calls Tryd.prog 54 #[.pointer (some ⟨t, 0, none⟩), .int .i32 y] w fun e w' => e = .returned (.tuple #[.int .i64 (Sp.tlow T y : Nat), .bool (Sp.thas T y)]) ∧ Below w.heap.size w w' := by
  obtain ⟨v, hv, ho⟩ := h
  obtain ⟨p, cap, rfl, he⟩ := ents_of_own ho
  have hc := tab_cell hv
  clear hv ho
  go_enter Tryd.func54, Tryd.ntmps54
  go_wp2_with fail
  refine (search_any p cap T y w he hT hl).mono ?_
  rintro e w' ⟨rfl, hb⟩
  go_wp2
  exact bodyPost_ret (v := .tuple #[.int .i64 (Sp.tlow T y : Nat), .bool (Sp.thas T y)]) (by simp [results, Tryd.results54, go_sem]) rfl ⟨rfl, hb⟩

theorem tlen_any (t B : Nat) (T : Sp.Tb) (w : World) (h : TabAt w B t T) :
    Calls Tryd.prog 41 #[.pointer (some ⟨t, 0, none⟩)] w fun e w' => e = .returned (.int .i64 T.length) ∧ w' = w := by
  obtain ⟨v, hv, ho⟩ := h
  obtain ⟨p, cap, rfl, he⟩ := ents_of_own ho
  have hc := tab_cell hv
  clear hv ho
  go_enter Tryd.func41, Tryd.ntmps41
  go_wp2
  go_ret
  exact ⟨rfl, rfl⟩
end Go.Proofs.YteflnddphpjahaaDoor
/-
  slices.Insert of one entry, at the program's table of runes.
-/
set_option linter.unusedVariables false
set_option linter.unusedSimpArgs false
set_option maxRecDepth 100000
namespace Go.Proofs.YteflnddphpjahaaDoor
open Go.RowKit

theorem Tryd.info_entry : (Tryd.prog.info? 160).map (fun i => (i.zero, i.size, i.bytes)) = some (some (.agg #[.int .i32 0, .int .i64 0]), 2, 16) := by kernel_rfl

section
variable {α : Type}
def ovr (L : List α) (o : Nat) (c : List α) : List α := L.take o ++ c ++ L.drop (o + c.length)
theorem ovr_len (L : List α) (o : Nat) (c : List α) (h : o + c.length ≤ L.length) : (ovr L o c).length = L.length := by simp [ovr]; omega
theorem ovr_room (L : List α) (o : Nat) (V D : List α) (n : Nat) (h1 : o + V.length + D.length ≤ L.length) :
    (ovr (ovr L (o + V.length) D) o V).take (o + V.length + D.length) = L.take o ++ V ++ D := by
  have e1 : (ovr L (o + V.length) D).take o = L.take o := by
    unfold ovr
    rw [List.append_assoc, List.take_append_of_le_length (by simp; omega), List.take_take, Nat.min_eq_left (by omega)]
  have e2 : (ovr L (o + V.length) D).drop (o + V.length) = D ++ L.drop (o + V.length + D.length) := by
    unfold ovr
    rw [List.append_assoc, List.drop_append_of_le_length (by simp; omega), List.drop_of_length_le (by simp; omega), List.nil_append]
  show (List.take o _ ++ V ++ List.drop (o + V.length) _).take _ = _
  rw [e1, e2, ← List.append_assoc, List.take_append_of_le_length (by simp; omega), List.take_of_length_le (by simp; omega)]
theorem ovr_grow (L : List α) (o : Nat) (V D : List α) (h1 : o + V.length + D.length ≤ L.length) :
    (ovr (ovr L o V) (o + V.length) D).take (o + V.length + D.length) = L.take o ++ V ++ D := by
  have e1 : (ovr L o V).take (o + V.length) = L.take o ++ V := by
    unfold ovr
    rw [List.take_append_of_le_length (by simp; omega), List.take_of_length_le (by simp; omega)]
  show (List.take _ _ ++ D ++ List.drop _ _).take _ = _
  rw [e1, List.take_append_of_le_length (by simp; omega), List.take_of_length_le (by simp; omega)]
end

theorem tb_take (T : Sp.Tb) (i : Nat) : (tbCells T).take (i * 2) = tbCells (T.take i) := by
  induction T generalizing i with
  | nil => simp [tbCells]
  | cons p t ih =>
    cases i with
    | zero => simp [tbCells]
    | succ i =>
      have e : tbCells (p :: t) = .int .i32 p.1 :: .int .i64 p.2 :: tbCells t := by simp [tbCells]
      rw [e, show (i + 1) * 2 = i * 2 + 1 + 1 by omega, List.take_succ_cons, List.take_succ_cons, ih]
      simp [tbCells]
theorem tb_drop (T : Sp.Tb) (i : Nat) : (tbCells T).drop (i * 2) = tbCells (T.drop i) := by
  induction T generalizing i with
  | nil => simp [tbCells]
  | cons p t ih =>
    cases i with
    | zero => simp
    | succ i =>
      have e : tbCells (p :: t) = .int .i32 p.1 :: .int .i64 p.2 :: tbCells t := by simp [tbCells]
      rw [e, show (i + 1) * 2 = i * 2 + 1 + 1 by omega, List.drop_succ_cons, List.drop_succ_cons, ih]
      simp
theorem tb_ins (T : Sp.Tb) (i : Nat) (a b : Int) : (tbCells T).take (i * 2) ++ [.int .i32 a, .int .i64 b] ++ (tbCells T).drop (i * 2) = tbCells (T.take i ++ (a, b) :: T.drop i) := by
  rw [tb_take, tb_drop, tb_append]
  simp [tbCells]

def InsPost (w : World) (B : Nat) (v : Value) (T : Sp.Tb) (i : Nat) (a b : Int) (e : Ending) (w' : World) : Prop :=
  ∃ v', e = .returned v' ∧ w'.ownsRow B 160 2 v' (T.length + 1) (tbCells (T.take i ++ (a, b) :: T.drop i)) ∧ w.grownBy w' v.ownBlock

set_option maxHeartbeats 1000000 in
theorem insert_end (B x : Nat) (v : Value) (T : Sp.Tb) (a b : Int) (w : World) (hB : B ≤ w.heap.size) (h : w.ownsRow B 160 2 v T.length (tbCells T)) (hl : T.length ≤ 100000)
    (hx : w.heap[x]? = some (.cells #[.int .i32 a, .int .i64 b] 160 (0, 0))) :
    Calls Tryd.prog 72 #[v, .int .i64 T.length, .slice (some ⟨x, 0, none⟩) 1 1] w (InsPost w B v T T.length a b) := by
  obtain ⟨i0, hi, hz0, hz1, hz2⟩ := info_parts Tryd.info_entry
  obtain ⟨p, cap, rfl, hcp⟩ := own_slice h
  have hcap : T.length ≤ cap := by
    rcases h.2 with ⟨hv, hn⟩ | ⟨g, cap', cur, hv, _, _, hn, _⟩
    · omega
    · injection hv with _ _ hv; omega
  have hcm : cap ≤ 9223372036854775807 := by
    rcases h.2 with ⟨hv, hn⟩ | ⟨g, cap', cur, hv, _, _, hn, hm, _⟩
    · injection hv with _ _ hv; omega
    · injection hv with _ _ hv; unfold maxLen at hm; omega
  clear hcp
  have x0 : w.cell? ⟨x, 0, none⟩ = some (.int .i32 a) := by rw [cell_of_row w x 0 _ _ _ hx]; rfl
  have x1 : w.cell? ⟨x, 1, none⟩ = some (.int .i64 b) := by rw [cell_of_row w x 1 _ _ _ hx]; rfl
  by_cases hce : cap = T.length
  · subst hce
    go_enter Tryd.func72, Tryd.ntmps72
    go_wp2_with (first
      | (at_builtin; go_must (refine wpList_append_own _ rfl (.tmp 23) (.tmp 24) 133 rfl B 160 i0 _ 2 16 Tryd.underlying133 hi hz0 hz1 hz2 rfl (by decide) _ _ _ rfl h ⟨x, 0, none⟩ 1 1 [.int .i32 a, .int .i64 b] rfl rfl ?c1 ?c2 ?c3 ?c4 ?c5 ?_))
      | go_in)
    case c1 =>
      intro j u hj
      match j, hj with
      | 0, hj => simp at hj; subst hj; simpa [Addr.add] using x0
      | 1, hj => simp at hj; subst hj; simpa [Addr.add] using x1
    case c2 => intro u hu; simp at hu; rcases hu with rfl | rfl <;> rfl
    case c3 => unfold maxLen; omega
    case c4 => omega
    case c5 => exact hB
    intro v3 w3 h3 hg3 _
    go_wp2
    go_ret
    refine ⟨v3, rfl, ?_, hg3⟩
    have e : tbCells (T.take T.length ++ (a, b) :: T.drop T.length) = tbCells T ++ [.int .i32 a, .int .i64 b] := by simp [tbCells]
    rw [e]; exact h3
  · have hci : T.length < cap := by omega
    go_enter Tryd.func72, Tryd.ntmps72
    go_wp2_with (first
      | (at_builtin; go_must (refine wpList_append_own _ rfl (.tmp 23) (.tmp 24) 133 rfl B 160 i0 _ 2 16 Tryd.underlying133 hi hz0 hz1 hz2 rfl (by decide) _ _ _ rfl h ⟨x, 0, none⟩ 1 1 [.int .i32 a, .int .i64 b] rfl rfl ?c1 ?c2 ?c3 ?c4 ?c5 ?_))
      | go_in)
    case c1 =>
      intro j u hj
      match j, hj with
      | 0, hj => simp at hj; subst hj; simpa [Addr.add] using x0
      | 1, hj => simp at hj; subst hj; simpa [Addr.add] using x1
    case c2 => intro u hu; simp at hu; rcases hu with rfl | rfl <;> rfl
    case c3 => unfold maxLen; omega
    case c4 => omega
    case c5 => exact hB
    intro v3 w3 h3 hg3 _
    go_wp2
    go_ret
    refine ⟨v3, rfl, ?_, hg3⟩
    have e : tbCells (T.take T.length ++ (a, b) :: T.drop T.length) = tbCells T ++ [.int .i32 a, .int .i64 b] := by simp [tbCells]
    rw [e]; exact h3
end Go.Proofs.YteflnddphpjahaaDoor
