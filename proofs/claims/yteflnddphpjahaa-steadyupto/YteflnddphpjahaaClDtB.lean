import Derived.Test.YteflnddphpjahaaClDtA
import Derived.Test.YteflnddphpjahaaClComtoCopyK
import Derived.Shelf.Spec.SlicesInsertGrow
import Derived.Deep.DeepMust
/-
  slices.Insert of one entry, at the table of names: behind the last.
-/
set_option linter.unusedVariables false
set_option linter.unusedSimpArgs false
set_option maxRecDepth 100000
namespace Go.Proofs.Yteflnddphpjahaa.Dk
open Go.RowKit

def tbCells (T : Sd.Tb) : List Value := T.flatMap fun p => [.string p.1, fptr p.2]
theorem tb_len (T : Sd.Tb) : (tbCells T).length = T.length * 2 := by
  induction T with
  | nil => rfl
  | cons p t ih => simp [tbCells] at ih ⊢; omega
theorem tb_append (A B : Sd.Tb) : tbCells (A ++ B) = tbCells A ++ tbCells B := by simp [tbCells]
theorem tb_get (T : Sd.Tb) : ∀ j (h : j < T.length), (tbCells T)[j * 2]? = some (.string (T[j]).1) ∧ (tbCells T)[j * 2 + 1]? = some (fptr (T[j]).2) := by
  induction T with
  | nil => intro j h; simp at h
  | cons p t ih =>
    intro j h
    have e : tbCells (p :: t) = .string p.1 :: fptr p.2 :: tbCells t := by simp [tbCells]
    rw [e]
    cases j with
    | zero => simp
    | succ j =>
      have := ih j (by simpa using h)
      rw [show (j + 1) * 2 = j * 2 + 1 + 1 by omega]
      simpa using this
theorem tb_one (T : Sd.Tb) : ∀ u ∈ tbCells T, u.oneCell' = true := by
  intro u hu
  obtain ⟨p, _, hp⟩ := List.mem_flatMap.1 hu
  simp at hp
  rcases hp with rfl | rfl <;> rfl

theorem ents_of_own {w : World} {B : Nat} {v : Value} {T : Sd.Tb} (h : w.ownsRow B 96 2 v T.length (tbCells T)) : ∃ p cap, v = .slice p T.length cap ∧ EntsAt w p T := by
  have h' := h
  rcases h.2 with ⟨hv, hn⟩ | ⟨g, cap, cur, hv, _⟩
  · subst hv
    refine ⟨none, 0, by rw [hn], fun j hj => by omega⟩
  · subst hv
    refine ⟨some ⟨g, 0, none⟩, cap, rfl, fun j hj => ⟨g, rfl, ?_, ?_⟩⟩
    · rw [h'.cellAt _ (by omega)]; exact (tb_get T j hj).1
    · rw [h'.cellAt _ (by omega)]; exact (tb_get T j hj).2


theorem own_slice {w : World} {B e size n : Nat} {v : Value} {xs : List Value} (h : w.ownsRow B e size v n xs) : ∃ p cap, v = .slice p n cap ∧ n ≤ cap := by
  rcases h.2 with ⟨rfl, hn⟩ | ⟨g, cap, cur, rfl, _, _, hn, _⟩
  · exact ⟨none, 0, by rw [hn], by omega⟩
  · exact ⟨_, cap, rfl, hn⟩
theorem Try.info_entry : (Try.prog.info? 96).map (fun i => (i.zero, i.size, i.bytes)) = some (some (.agg #[.string ⟨#[]⟩, .pointer none]), 2, 24) := by kernel_rfl

section
variable {α : Type}
def ovr (L : List α) (o : Nat) (c : List α) : List α := L.take o ++ c ++ L.drop (o + c.length)
theorem ovr_len (L : List α) (o : Nat) (c : List α) (h : o + c.length ≤ L.length) : (ovr L o c).length = L.length := by simp [ovr]; omega
theorem ovr_room (L : List α) (o : Nat) (V D : List α) (n : Nat) (h1 : o + V.length + D.length ≤ L.length) :
    (ovr (ovr L (o + V.length) D) o V).take (o + V.length + D.length) = L.take o ++ V ++ D := by
  have e1 : (ovr L (o + V.length) D).take o = L.take o := by
    unfold ovr
    rw [List.append_assoc, List.take_append_of_le_length (by simp; omega), List.take_take, Nat.min_eq_left (by omega)]
  have e2 : (ovr L (o + V.length) D).drop (o + V.length) = D ++ L.drop (o + V.length + D.length) := by
    unfold ovr
    rw [List.append_assoc, List.drop_append_of_le_length (by simp; omega), List.drop_of_length_le (by simp; omega), List.nil_append]
  show (List.take o _ ++ V ++ List.drop (o + V.length) _).take _ = _
  rw [e1, e2, ← List.append_assoc, List.take_append_of_le_length (by simp; omega), List.take_of_length_le (by simp; omega)]
theorem ovr_grow (L : List α) (o : Nat) (V D : List α) (h1 : o + V.length + D.length ≤ L.length) :
    (ovr (ovr L o V) (o + V.length) D).take (o + V.length + D.length) = L.take o ++ V ++ D := by
  have e1 : (ovr L o V).take (o + V.length) = L.take o ++ V := by
    unfold ovr
    rw [List.take_append_of_le_length (by simp; omega), List.take_of_length_le (by simp; omega)]
  show (List.take _ _ ++ D ++ List.drop _ _).take _ = _
  rw [e1, List.take_append_of_le_length (by simp; omega), List.take_of_length_le (by simp; omega)]
end

theorem tb_take (T : Sd.Tb) (i : Nat) : (tbCells T).take (i * 2) = tbCells (T.take i) := by
  induction T generalizing i with
  | nil => simp [tbCells]
  | cons p t ih =>
    cases i with
    | zero => simp [tbCells]
    | succ i =>
      have e : tbCells (p :: t) = .string p.1 :: fptr p.2 :: tbCells t := by simp [tbCells]
      rw [e, show (i + 1) * 2 = i * 2 + 1 + 1 by omega, List.take_succ_cons, List.take_succ_cons, ih]
      simp [tbCells]
theorem tb_drop (T : Sd.Tb) (i : Nat) : (tbCells T).drop (i * 2) = tbCells (T.drop i) := by
  induction T generalizing i with
  | nil => simp [tbCells]
  | cons p t ih =>
    cases i with
    | zero => simp
    | succ i =>
      have e : tbCells (p :: t) = .string p.1 :: fptr p.2 :: tbCells t := by simp [tbCells]
      rw [e, show (i + 1) * 2 = i * 2 + 1 + 1 by omega, List.drop_succ_cons, List.drop_succ_cons, ih]
      simp
theorem tb_ins (T : Sd.Tb) (i : Nat) (a : ByteArray) (b : Nat) : (tbCells T).take (i * 2) ++ [.string a, fptr b] ++ (tbCells T).drop (i * 2) = tbCells (T.take i ++ (a, b) :: T.drop i) := by
  rw [tb_take, tb_drop, tb_append]
  simp [tbCells]

def InsPost (w : World) (B : Nat) (v : Value) (T : Sd.Tb) (i : Nat) (a : ByteArray) (b : Nat) (e : Ending) (w' : World) : Prop :=
  ∃ v', e = .returned v' ∧ w'.ownsRow B 96 2 v' (T.length + 1) (tbCells (T.take i ++ (a, b) :: T.drop i)) ∧ w.grownBy w' v.ownBlock ∧ (v'.ownBlock = v.ownBlock ∨ v'.ownBlock = some w.heap.size)

set_option maxHeartbeats 1000000 in
theorem insert_end (B x : Nat) (v : Value) (T : Sd.Tb) (a : ByteArray) (b : Nat) (w : World) (hB : B ≤ w.heap.size) (h : w.ownsRow B 96 2 v T.length (tbCells T)) (hl : T.length ≤ 100000)
    (hx : w.heap[x]? = some (.cells #[.string a, fptr b] 96 (0, 0))) :
    Calls Try.prog 79 #[v, .int .i64 T.length, .slice (some ⟨x, 0, none⟩) 1 1] w (InsPost w B v T T.length a b) := by
  obtain ⟨i0, hi, hz0, hz1, hz2⟩ := info_parts Try.info_entry
  obtain ⟨p, cap, rfl, hcp⟩ := own_slice h
  have hcap : T.length ≤ cap := hcp
  have hcm : cap ≤ 9223372036854775807 := by
    rcases h.2 with ⟨hv, hn⟩ | ⟨g, cap', cur, hv, _, _, hn, hm, _⟩
    · injection hv with _ _ hv; omega
    · injection hv with _ _ hv; unfold maxLen at hm; omega
  clear hcp
  have x0 : w.cell? ⟨x, 0, none⟩ = some (.string a) := by rw [cell_of_row w x 0 _ _ _ hx]; rfl
  have x1 : w.cell? ⟨x, 1, none⟩ = some (fptr b) := by rw [cell_of_row w x 1 _ _ _ hx]; rfl
  by_cases hce : cap = T.length
  · subst hce
    go_enter Try.func79, Try.ntmps79
    go_wp2_with (first
      | (at_builtin; go_must (refine wpList_append_keeps _ rfl (.tmp 23) (.tmp 24) 51 rfl B 96 i0 _ 2 24 Try.underlying51 hi hz0 hz1 hz2 rfl (by decide) _ _ _ rfl h ⟨x, 0, none⟩ 1 1 (by decide) [.string a, fptr b] rfl rfl ?c1 ?c2 ?c3 ?c4 ?c5 ?_))
      | go_in)
    case c1 =>
      intro j u hj
      match j, hj with
      | 0, hj => simp at hj; subst hj; simpa [Addr.add] using x0
      | 1, hj => simp at hj; subst hj; simpa [Addr.add] using x1
    case c2 => intro u hu; simp at hu; rcases hu with rfl | rfl <;> rfl
    case c3 => unfold maxLen; omega
    case c4 => omega
    case c5 => exact hB
    intro v3 w3 h3 hg3 hn3 _
    go_wp2
    go_ret
    refine ⟨v3, rfl, ?_, hg3, hn3⟩
    have e : tbCells (T.take T.length ++ (a, b) :: T.drop T.length) = tbCells T ++ [.string a, fptr b] := by simp [tbCells]
    rw [e]; exact h3
  · have hci : T.length < cap := by omega
    go_enter Try.func79, Try.ntmps79
    go_wp2_with (first
      | (at_builtin; go_must (refine wpList_append_keeps _ rfl (.tmp 23) (.tmp 24) 51 rfl B 96 i0 _ 2 24 Try.underlying51 hi hz0 hz1 hz2 rfl (by decide) _ _ _ rfl h ⟨x, 0, none⟩ 1 1 (by decide) [.string a, fptr b] rfl rfl ?c1 ?c2 ?c3 ?c4 ?c5 ?_))
      | go_in)
    case c1 =>
      intro j u hj
      match j, hj with
      | 0, hj => simp at hj; subst hj; simpa [Addr.add] using x0
      | 1, hj => simp at hj; subst hj; simpa [Addr.add] using x1
    case c2 => intro u hu; simp at hu; rcases hu with rfl | rfl <;> rfl
    case c3 => unfold maxLen; omega
    case c4 => omega
    case c5 => exact hB
    intro v3 w3 h3 hg3 hn3 _
    go_wp2
    go_ret
    refine ⟨v3, rfl, ?_, hg3, hn3⟩
    have e : tbCells (T.take T.length ++ (a, b) :: T.drop T.length) = tbCells T ++ [.string a, fptr b] := by simp [tbCells]
    rw [e]; exact h3
end Go.Proofs.Yteflnddphpjahaa.Dk
