import Derived.Test.YteflnddphpjahaaClStE
/-
  Steady: what a crash leaves of a file that stands under one name (plain).
-/
set_option linter.unusedVariables false
set_option linter.unusedSimpArgs false
set_option maxRecDepth 100000
namespace Go.Proofs.Yteflnddphpjahaa.Dk
open Go.RowKit

/-- A file that no entry names is as it was. -/
theorem cr_none (K : Nat → Int) (f : Nat) : ∀ (L : List (ByteArray × Nat)) (st : Nat × (Nat → Fl)), (∀ p ∈ L, ¬ p.2 = f) → (L.foldl (crStep K) st).2 f = st.2 f := by
  intro L
  induction L with
  | nil => intro st _; rfl
  | cons x t ih =>
    intro st h
    rw [List.foldl_cons, ih _ (fun p hp => h p (List.mem_cons_of_mem _ hp))]
    exact upd_other _ _ (fun e => h x (List.mem_cons_self ..) e.symm)
/-- A file that one entry names is crashed once. -/
theorem cr_one (K : Nat → Int) (z : ByteArray) (f : Nat) : ∀ (L : List (ByteArray × Nat)) (st : Nat × (Nat → Fl)), Sd.tsorted L → (z, f) ∈ L → (∀ a, (a, f) ∈ L → a = z) → ∃ k, (L.foldl (crStep K) st).2 f = crashF (st.2 f) k := by
  intro L
  induction L with
  | nil => intro st _ h _; cases h
  | cons x t ih =>
    intro st hT h1 h2
    rw [List.foldl_cons]
    by_cases e : x.2 = f
    · have hxz : x.1 = z := h2 x.1 (by rw [← e]; exact List.mem_cons_self ..)
      have hno : ∀ p ∈ t, ¬ p.2 = f := fun p hp e2 => by
        have h3 : p.1 = z := h2 p.1 (List.mem_cons_of_mem _ (by rw [← e2]; exact hp))
        have h4 := (List.pairwise_cons.1 hT).1 p hp
        rw [hxz, h3, Sd.lt_irrefl] at h4
        cases h4
      rw [cr_none K f t _ hno]
      refine ⟨K st.1, ?_⟩
      show upd st.2 x.2 (crashF (st.2 x.2) (K st.1)) f = _
      rw [e, upd_same]
    · have h1' : (z, f) ∈ t := by
        rcases List.mem_cons.1 h1 with h | h
        · exact absurd (by rw [← h]) e
        · exact h
      obtain ⟨k, hk⟩ := ih (crStep K st x) (List.pairwise_cons.1 hT).2 h1' (fun a ha => h2 a (List.mem_cons_of_mem _ ha))
      refine ⟨k, ?_⟩
      rw [hk]
      show crashF (upd st.2 x.2 (crashF (st.2 x.2) (K st.1)) f) k = _
      rw [upd_other _ _ (fun e2 => e e2.symm)]
/-- Changes that name neither the name nor the file leave them. -/
theorem ap_hold (z : ByteArray) (f : Nat) : ∀ (L : List Ch) (T : Sd.Tb), (∀ c ∈ L, okCh c) → (∀ c ∈ L, ¬ c.gone = z ∧ ¬ c.name = z ∧ ¬ c.file = some f) → lets T → (z, f) ∈ T → (∀ a, (a, f) ∈ T → a = z) →
    lets (apAll apG T L) ∧ (z, f) ∈ apAll apG T L ∧ ∀ a, (a, f) ∈ apAll apG T L → a = z := by
  intro L
  induction L with
  | nil => intro T _ _ h1 h2 h3; exact ⟨h1, h2, h3⟩
  | cons c t ih =>
    intro T hok hno hT h1 h2
    have hc := hok c (List.mem_cons_self ..)
    have hn := hno c (List.mem_cons_self ..)
    have hstep : (z, f) ∈ apG T c ∧ ∀ a, (a, f) ∈ apG T c → a = z := by
      rcases hc with ⟨f', hf', hl, hg⟩ | ⟨hf', hl, hg⟩
      · have hff : ¬ f = f' := fun e => hn.2.2 (by rw [hf', e])
        unfold apG
        rw [hf']
        show (z, f) ∈ (if c.gone.size = 0 then Sd.tset T c.name f' else Sd.tset (Sd.trem T c.gone) c.name f') ∧ ∀ a, (a, f) ∈ (if c.gone.size = 0 then Sd.tset T c.name f' else Sd.tset (Sd.trem T c.gone) c.name f') → a = z
        split
        · exact hold_set hT.1 h1 h2 (fun e => hn.2.1 e.symm) hff
        · obtain ⟨u1, u2⟩ := hold_rem hT.1 h1 h2 (fun e => hn.1 e.symm)
          exact hold_set (Sd.trem_sorted hT.1 _) u1 u2 (fun e => hn.2.1 e.symm) hff
      · unfold apG
        rw [hf']
        exact hold_rem hT.1 h1 h2 (fun e => hn.1 e.symm)
    exact ih (apG T c) (fun d hd => hok d (List.mem_cons_of_mem _ hd)) (fun d hd => hno d (List.mem_cons_of_mem _ hd)) (lets_ap hT hc) hstep.1 hstep.2
/-- Behind any crash: the name is there, and its bytes are the safe ones and a front of the others. -/
theorem crash_holds {s : Sk} {F : Nat → Fl} {N m : Nat} (hi : Inv s F N m) {z : ByteArray} {fz : Nat} {text more : ByteArray} (hx : Holds s F z fz ⟨text ++ more, text.size⟩) (dir : Int) (K : Nat → Int) :
    lets (crT s dir apG) ∧ Sd.tget (crT s dir apG) z = some fz ∧ ∃ n, n ≤ more.size ∧ ((crAll K F (crT s dir apG)).2 fz).bytes = (text ++ more).extract 0 (text.size + n) := by
  obtain ⟨h1, h2, h3⟩ := ap_hold z fz (s.chs.take (clampN dir s.chs.length)) s.safe (fun c hc => hi.lc c (List.mem_of_mem_take hc)) (fun c hc => hx.chs c (List.mem_of_mem_take hc)) hi.ls hx.inS hx.onlyS
  refine ⟨h1, (Sd.tget_mem h1.1).2 h2, ?_⟩
  obtain ⟨k, hk⟩ := cr_one K z fz (crT s dir apG) (0, F) h1.1 h2 h3
  have hz : (text ++ more).size - text.size = more.size := by rw [ByteArray.size_append]; omega
  refine ⟨clampN k more.size, clampN_le _ _, ?_⟩
  show (((crT s dir apG).foldl (crStep K) (0, F)).2 fz).bytes = _
  rw [hk]
  show (crashF (F fz) k).bytes = _
  rw [hx.is]
  unfold crashF
  show (text ++ more).extract 0 (text.size + clampN k ((text ++ more).size - text.size)) = _
  rw [hz]
end Go.Proofs.Yteflnddphpjahaa.Dk
