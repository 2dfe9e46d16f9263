import Derived.Test.YteflnddphpjahaaDoorClCrA
import Derived.Test.YteflnddphpjahaaDoorClPlJtoPlO
/-
  Plain facts for Compile: a line's beginning and the words behind it.
-/
set_option linter.unusedVariables false
set_option linter.unusedSimpArgs false
set_option maxRecDepth 100000
namespace Go.Proofs.YteflnddphpjahaaDoor.Sp
open Go

theorem spl_at (c : UInt8) : ∀ (p r : List UInt8), c ∉ p → spl c (p ++ c :: r) = p :: spl c r := by
  intro p
  induction p with
  | nil => intro r h; simp [spl]
  | cons b p ih =>
    intro r h
    have hb : ¬ b = c := fun e => h (by rw [e]; exact List.mem_cons_self ..)
    simp only [List.cons_append, spl, if_neg hb]
    rw [ih r (fun hm => h (List.mem_cons_of_mem _ hm))]
theorem spl_back (c : UInt8) : ∀ (l p : List UInt8) (t : List (List UInt8)), spl c l = p :: t → t ≠ [] → ∃ r, l = p ++ c :: r ∧ spl c r = t := by
  intro l
  induction l with
  | nil => intro p t h ht; simp [spl] at h; exact absurd h.2 (fun e => ht (by first | exact e | exact e.symm))
  | cons b l ih =>
    intro p t h ht
    simp only [spl] at h
    split at h
    · rename_i hb
      injection h with h1 h2
      subst h1 hb
      exact ⟨l, rfl, h2⟩
    · obtain ⟨h', t', e⟩ := spl_ne c l
      rw [e] at h
      injection h with h1 h2
      subst h1 h2
      obtain ⟨r, hr, hs⟩ := ih h' t' e ht
      exact ⟨r, by rw [hr]; rfl, hs⟩
theorem hd_no : ∀ i, i < 7 → (32 : UInt8) ∉ hd i := by decide
theorem ws_map (x : ByteArray) : (ws x).map (·.data.toList) = spl 32 x.data.toList := split_spl x 32
theorem head_map {X : List ByteArray} : (X.headD ⟨#[]⟩).data.toList = (X.map (·.data.toList)).headD [] := by cases X <;> rfl
theorem tail_map {X : List ByteArray} : X.tail.map (·.data.toList) = (X.map (·.data.toList)).tail := by cases X <;> rfl
/-- A line that does not begin as it must. -/
theorem lineOk_no {x : ByteArray} {i : Nat} (hi : i < 7) (h : ¬ (hd i ++ [32]) <+: x.data.toList) : lineOk i x = false := by
  apply Bool.eq_false_iff.2
  intro hk
  unfold lineOk at hk
  rw [Bool.and_eq_true] at hk
  obtain ⟨h1, h2⟩ := hk
  have h1 := of_decide_eq_true h1
  rw [head_map, ws_map] at h1
  have ht : (spl 32 x.data.toList).tail ≠ [] := by
    rw [← ws_map, ← tail_map]
    intro he
    have he' : (ws x).tail = [] := by cases hq : (ws x).tail with
      | nil => rfl
      | cons a b => rw [hq] at he; cases he
    rw [he'] at h2
    split at h2
    · simp at h2
    · simp at h2
  cases hq : spl 32 x.data.toList with
  | nil => rw [hq] at ht; exact ht rfl
  | cons a b =>
    rw [hq] at h1 ht
    simp only [List.headD_cons] at h1
    subst h1
    obtain ⟨r, hr, _⟩ := spl_back 32 _ _ _ hq ht
    exact h ⟨r, by rw [hr]; simp⟩
theorem ws_tail {x rest : ByteArray} {i : Nat} (hi : i < 7) (h : x.data.toList = hd i ++ 32 :: rest.data.toList) : (ws x).tail = split rest 32 ∧ ((ws x).headD ⟨#[]⟩).data.toList = hd i := by
  have e := ws_map x
  rw [h, spl_at 32 _ _ (hd_no i hi)] at e
  constructor
  · apply list_inj
    rw [tail_map, e, List.tail_cons]
    exact (split_spl rest 32).symm
  · rw [head_map, e, List.headD_cons]
theorem lineOk_code {x rest : ByteArray} {i : Nat} (hi : i < 5) (h : x.data.toList = hd i ++ 32 :: rest.data.toList) : lineOk i x = fmd (i == 2) ((split rest 32).map (·.data.toList)) 0 := by
  obtain ⟨e1, e2⟩ := ws_tail (by omega) h
  unfold lineOk
  rw [e1, e2, if_neg (by omega)]
  have hne : (split rest 32).isEmpty = false := by
    have := (split_len rest 32).1
    cases hq : split rest 32 with
    | nil => rw [hq] at this; simp at this
    | cons a b => rfl
  rw [hne]
  simp
theorem lineOk_comb {x rest : ByteArray} {i : Nat} (hi : 5 ≤ i) (h7 : i < 7) (h : x.data.toList = hd i ++ 32 :: rest.data.toList) : lineOk i x = (decide ((split rest 32).length = 1) && decide (((split rest 32).headD ⟨#[]⟩).data.toList ∈ combsL)) := by
  obtain ⟨e1, e2⟩ := ws_tail h7 h
  unfold lineOk
  rw [e1, e2, if_pos hi]
  simp
/-- The text behind a beginning. -/
theorem pre_rest {x : ByteArray} {p : List UInt8} (h : p <+: x.data.toList) : x.data.toList = p ++ (x.extract p.length x.size).data.toList := by
  obtain ⟨r, hr⟩ := h
  have : (x.extract p.length x.size).data.toList = x.data.toList.drop p.length := by
    rw [ByteArray.data_extract, Array.toList_extract, List.extract_eq_take_drop]
    have : x.size = x.data.toList.length := Array.length_toList.symm
    rw [this, List.take_of_length_le (by simp)]
  rw [this, ← hr]; simp
theorem pre_take {x : ByteArray} {p : List UInt8} (h : p.length ≤ x.size) : (x.extract 0 p.length).toList = p ↔ p <+: x.data.toList := by
  have hz : x.size = x.data.toList.length := Array.length_toList.symm
  have : (x.extract 0 p.length).toList = x.data.toList.take p.length := by
    rw [ByteArray.toList_eq, ByteArray.data_extract, Array.toList_extract, List.extract_eq_take_drop]
    simp
  rw [this, List.prefix_iff_eq_take]
  exact ⟨fun h => h.symm, fun h => h.symm⟩
theorem pre_len {x : ByteArray} {p : List UInt8} (h : p <+: x.data.toList) : p.length ≤ x.size := by
  have hz : x.size = x.data.toList.length := Array.length_toList.symm
  rw [hz]; exact h.length_le
theorem split_lib32 (s : ByteArray) : Lib.splitB ⟨#[32]⟩ 0 (Lib.countB s ⟨#[32]⟩) s = split s 32 := by
  apply list_inj
  rw [Lib.splitB_data]
  have := split_spl s 32
  rw [show (32 : UInt8).toNat = 32 from rfl] at this
  rw [this]
  exact splitK_spl 32 s.data.toList
theorem split_count32 (s : ByteArray) : Lib.countB s ⟨#[32]⟩ + 1 = (split s 32).length := by
  rw [← split_lib32, Lib.splitB_all ⟨#[32]⟩ (by decide) 0 _ s rfl]
end Go.Proofs.YteflnddphpjahaaDoor.Sp
