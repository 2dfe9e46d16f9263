import Derived.Test.YteflnddphpjahaaDoorClSrtL
import Derived.Test.YteflnddphpjahaaDoorClPlJtoPlQ
/-
  Plain facts: what the program's steps come to is the document's answer.
-/
set_option linter.unusedVariables false
set_option linter.unusedSimpArgs false
namespace Go.Proofs.YteflnddphpjahaaDoor

theorem ord_pairwise {Y : List Sp.Ed} (h : Ord Y 0 Y.length) : Y.Pairwise Sp.lexle := by
  rw [List.pairwise_iff_getElem]
  intro i j hi hj hij
  exact h i j _ _ (Nat.zero_le _) hij hj (List.getElem?_eq_getElem hi) (List.getElem?_eq_getElem hj)
theorem es_done {L : List Sp.Ln} {T : Sp.Tb} {Y : List Sp.Ed} (hs : Sp.tsorted T) (hp : T.Perm (Sp.verts L)) (hl : Sp.first (Sp.loose L) L.length = none) (hSt : St (Sp.edsOf L L) Y) (hO : Ord Y 0 (Sp.edsOf L L).length) : Y = Sp.es L (Sp.nv L) (Sp.nv L) := by
  refine Sp.es_of (ord_pairwise (by rw [hSt.1]; exact hO)) ?_ hSt.2
  intro x hx
  have h1 : x ∈ Y.filter (Sp.isKey x.frm x.to) := List.mem_filter.2 ⟨hx, by simp [Sp.isKey]⟩
  rw [hSt.2] at h1
  exact Sp.eds_bd hs hp hl x (List.mem_filter.1 h1).1

theorem spec_long {s : ByteArray} (h : 4000 < s.size) : Sp.parseSpec s = .error (1, 0) := by
  unfold Sp.parseSpec Sp.readSpec; rw [if_pos h]
theorem spec_bad {s : ByteArray} (h : ¬ 4000 < s.size) {i : Nat} (hb : Sp.bad s = some i) : Sp.parseSpec s = .error (2, (i : Int)) := by
  unfold Sp.parseSpec Sp.readSpec; rw [if_neg h, hb]
theorem spec_form {s : ByteArray} (h : ¬ 4000 < s.size) (hb : Sp.bad s = none) {k : Nat} (hp : Sp.plFrom (Sp.split s 10) 0 [] = .error k) : Sp.parseSpec s = .error (3, (k : Int)) := by
  unfold Sp.parseSpec Sp.readSpec; rw [if_neg h, hb]; simp only; rw [Sp.rd_of_pl, hp]
theorem spec_read {s : ByteArray} (h : ¬ 4000 < s.size) (hb : Sp.bad s = none) {P : List (Option Sp.Ln)} (hp : Sp.plFrom (Sp.split s 10) 0 [] = .ok P) : Sp.parseSpec s = if (Sp.wrongSpec (Sp.says P) (Sp.numsFrom P 0)).1 = 0 then .ok (Sp.says P) else .error (Sp.wrongSpec (Sp.says P) (Sp.numsFrom P 0)) := by
  unfold Sp.parseSpec Sp.readSpec; rw [if_neg h, hb]; simp only; rw [Sp.rd_of_pl, hp]
theorem gv_at (P : List (Option Sp.Ln)) :
    (∃ i, Sp.first (Sp.twiceAt (Sp.says P)) (Sp.says P).length = some i ∧ Sp.gv P 0 [] = .error ((Sp.numsFrom P 0).getD i 0)) ∨
    (Sp.first (Sp.twiceAt (Sp.says P)) (Sp.says P).length = none ∧ ∃ T', Sp.gv P 0 [] = .ok T' ∧ Sp.tsorted T' ∧ T'.Perm (Sp.verts (Sp.says P))) := by
  have h := Sp.gv_spec P [] [] (by simp [Sp.tsorted]) (by simp [Sp.says, Sp.verts]) (fun i hi => by simp [Sp.says] at hi)
  simpa using h
theorem ge_at {P : List (Option Sp.Ln)} {T : Sp.Tb} (hp : T.Perm (Sp.verts (Sp.says P))) :
    (∃ i, Sp.first (Sp.loose (Sp.says P)) (Sp.says P).length = some i ∧ Sp.ge T P 0 [] = .error ((Sp.numsFrom P 0).getD i 0)) ∨
    (Sp.first (Sp.loose (Sp.says P)) (Sp.says P).length = none ∧ Sp.ge T P 0 [] = .ok (Sp.edsOf (Sp.says P) (Sp.says P))) := by
  have h := Sp.ge_spec T (Sp.says P) hp P [] (by simp) (fun i hi => by simp [Sp.says] at hi)
  simpa [Sp.says, Sp.edsOf] using h
theorem spec_twice {s : ByteArray} (h : ¬ 4000 < s.size) (hb : Sp.bad s = none) {P : List (Option Sp.Ln)} (hp : Sp.plFrom (Sp.split s 10) 0 [] = .ok P) {k : Nat} (hg : Sp.gv P 0 [] = .error k) : Sp.parseSpec s = .error (4, (k : Int)) := by
  rw [spec_read h hb hp]
  rcases gv_at P with ⟨i, h1, h2⟩ | ⟨h1, T, h2, _⟩
  · rw [hg] at h2
    injection h2 with h2
    have hw : Sp.wrongSpec (Sp.says P) (Sp.numsFrom P 0) = (4, (k : Int)) := by unfold Sp.wrongSpec; rw [h1]; simp only; rw [← h2]
    rw [hw]; rfl
  · rw [hg] at h2; cases h2
theorem spec_name {s : ByteArray} (h : ¬ 4000 < s.size) (hb : Sp.bad s = none) {P : List (Option Sp.Ln)} (hp : Sp.plFrom (Sp.split s 10) 0 [] = .ok P) {T : Sp.Tb} (hg : Sp.gv P 0 [] = .ok T) {k : Nat} (he : Sp.ge T P 0 [] = .error k) : Sp.parseSpec s = .error (5, (k : Int)) := by
  rw [spec_read h hb hp]
  rcases gv_at P with ⟨i, h1, h2⟩ | ⟨h1, T', h2, _, hP⟩
  · rw [hg] at h2; cases h2
  · rw [hg] at h2
    injection h2 with h2
    subst h2
    rcases ge_at hP with ⟨i, g1, g2⟩ | ⟨g1, g2⟩
    · rw [he] at g2
      injection g2 with g2
      have hw : Sp.wrongSpec (Sp.says P) (Sp.numsFrom P 0) = (5, (k : Int)) := by unfold Sp.wrongSpec; rw [h1]; simp only; rw [g1]; simp only; rw [← g2]
      rw [hw]; rfl
    · rw [he] at g2; cases g2
/-- All that is known where nothing is wrong with the names. -/
structure Fine (s : ByteArray) (P : List (Option Sp.Ln)) (T : Sp.Tb) (E : List Sp.Ed) : Prop where
  srt : Sp.tsorted T
  prm : T.Perm (Sp.verts (Sp.says P))
  tl : T.length = Sp.nv (Sp.says P)
  eq : E = Sp.edsOf (Sp.says P) (Sp.says P)
  el : E.length = Sp.edges (Sp.says P)
  lo : Sp.first (Sp.loose (Sp.says P)) (Sp.says P).length = none
  spec : Sp.parseSpec s = if 256 < Sp.edges (Sp.says P) ∨ 64 < Sp.nv (Sp.says P) then .error (6, 0) else .ok (Sp.says P)
theorem spec_fine {s : ByteArray} (h : ¬ 4000 < s.size) (hb : Sp.bad s = none) {P : List (Option Sp.Ln)} (hp : Sp.plFrom (Sp.split s 10) 0 [] = .ok P) {T : Sp.Tb} (hg : Sp.gv P 0 [] = .ok T) {E : List Sp.Ed} (he : Sp.ge T P 0 [] = .ok E) : Fine s P T E := by
  rcases gv_at P with ⟨i, h1, h2⟩ | ⟨h1, T', h2, hS, hP⟩
  · rw [hg] at h2; cases h2
  · rw [hg] at h2
    injection h2 with h2
    subst h2
    rcases ge_at hP with ⟨i, g1, g2⟩ | ⟨g1, g2⟩
    · rw [he] at g2; cases g2
    · rw [he] at g2
      injection g2 with g2
      refine ⟨hS, hP, by rw [hP.length_eq, Sp.verts_len], g2, by rw [g2, Sp.edsOf_len], g1, ?_⟩
      rw [spec_read h hb hp]
      have hw : Sp.wrongSpec (Sp.says P) (Sp.numsFrom P 0) = if 256 < Sp.edges (Sp.says P) ∨ 64 < Sp.nv (Sp.says P) then (6, 0) else (0, 0) := by unfold Sp.wrongSpec; rw [h1]; simp only; rw [g1]; rfl
      rw [hw]
      by_cases c : 256 < Sp.edges (Sp.says P) ∨ 64 < Sp.nv (Sp.says P)
      · rw [if_pos c, if_pos c]; rfl
      · rw [if_neg c, if_neg c]; rfl
end Go.Proofs.YteflnddphpjahaaDoor
