import Derived.Test.YteflnddphpjahaaDoorClRunA
import Derived.Test.YteflnddphpjahaaDoorClPrA
/-
  Plain facts for Runed: what the document answers to a text of vertices, and to one with a broken byte.
-/
set_option linter.unusedVariables false
set_option linter.unusedSimpArgs false
set_option maxRecDepth 100000
namespace Go.Proofs.YteflnddphpjahaaDoor.Sp
open Go

theorem spl_cut (c : UInt8) : ∀ (A rest : List UInt8), c ∉ A → spl c (A ++ c :: rest) = A :: spl c rest := by
  intro A
  induction A with
  | nil => intro rest _; simp [spl]
  | cons a t ih =>
    intro rest h
    have h1 : ¬ a = c := fun e => h (by rw [e]; exact List.mem_cons_self ..)
    have h2 := ih rest (fun hm => h (List.mem_cons_of_mem _ hm))
    simp only [List.cons_append, spl, if_neg h1, h2]
def lines : List Nat → Nat → List (List UInt8)
  | [], _ => []
  | r :: t, k => vl r k :: lines t (k + 1)
def lns : List Nat → Nat → List Ln
  | [], _ => []
  | r :: t, k => ⟨false, (r : Int), 0, (k : Int)⟩ :: lns t (k + 1)
theorem en_no10 {r : Nat} (h : okR r) : (10 : UInt8) ∉ en r := by
  obtain ⟨⟨h1, _⟩, _, h3, _⟩ := h
  have key : ∀ n : Nat, n < 256 → n ≠ 10 → (10 : UInt8) ≠ UInt8.ofNat n := fun n hn h10 e => by
    have := congrArg UInt8.toNat e
    rw [ofNat_toNat hn] at this
    exact h10 this.symm
  unfold en
  split
  · simp only [List.mem_singleton]; exact key _ (by omega) (by omega)
  · split
    · simp only [List.mem_cons, List.mem_nil_iff, or_false, not_or]
      exact ⟨key _ (by omega) (by omega), key _ (by omega) (by omega)⟩
    · split
      · simp only [List.mem_cons, List.mem_nil_iff, or_false, not_or]
        exact ⟨key _ (by omega) (by omega), key _ (by omega) (by omega), key _ (by omega) (by omega)⟩
      · simp only [List.mem_cons, List.mem_nil_iff, or_false, not_or]
        exact ⟨key _ (by omega) (by omega), key _ (by omega) (by omega), key _ (by omega) (by omega), key _ (by omega) (by omega)⟩
theorem vl_no10 {r k : Nat} (h : okR r) (hk : k < 100) : (10 : UInt8) ∉ vl r k := by
  unfold vl
  simp only [List.mem_append, List.mem_cons, not_or]
  refine ⟨en_no10 h, by decide, fun hm => ?_⟩
  have := dm_low k hk _ hm
  revert this; decide
theorem spl_txt : ∀ (R : List Nat) (k : Nat), (∀ r ∈ R, okR r) → k + R.length ≤ 100 → spl 10 (txt R k) = lines R k ++ [[]] := by
  intro R
  induction R with
  | nil => intro k _ _; rfl
  | cons r t ih =>
    intro k hR hk
    simp only [List.length_cons] at hk
    simp only [txt, lines, List.append_assoc, List.cons_append, List.nil_append]
    rw [spl_cut _ _ _ (vl_no10 (hR r (List.mem_cons_self ..)) (by omega)), ih (k + 1) (fun x hx => hR x (List.mem_cons_of_mem _ hx)) (by omega)]
theorem pl_vl {x : ByteArray} {r k : Nat} (h : okR r) (hk : k < 64) (hx : x.data.toList = vl r k) : plOf x = some (some ⟨false, (r : Int), 0, (k : Int)⟩) := by
  obtain ⟨hv, h32, _, h62⟩ := h
  have hd0 : x.data.toList.drop 0 = en r ++ 32 :: dm k := by rw [List.drop_zero]; exact hx
  obtain ⟨e1, e2, e3, e4⟩ := dec_en hv hd0
  rw [Nat.zero_add] at e3
  obtain ⟨f1, f2, f3⟩ := bt_drop e3
  have f2' : bt x (en r).length = 32 := f2
  have hne : ¬ Utf8.decode x 0 = (65533, 1) := by
    rw [e1]; intro e
    have a1 := congrArg Prod.fst e
    have a2 := congrArg Prod.snd e
    simp only at a1 a2
    unfold en at a2
    rw [a1] at a2
    simp at a2
  have hb : bt x 0 ≠ 32 ∧ bt x 0 ≠ 62 := by
    rw [e4]
    split
    · exact ⟨h32, h62⟩
    · split
      · omega
      · split <;> omega
  have hnm : nm x 0 = some ((r : Int), (en r).length) := by
    unfold nm
    rw [if_pos ⟨e2, hb.1, hb.2⟩, ref_of_good hne, e1]
    simp
  have hfin : fin x false (r : Int) 0 (en r).length = some ⟨false, (r : Int), 0, (k : Int)⟩ := by
    unfold fin
    rw [if_pos ⟨f1, f2'⟩, extract_drop, f3, dm_num k hk]
    rfl
  have hl : lineOf x = some ⟨false, (r : Int), 0, (k : Int)⟩ := by
    unfold lineOf
    rw [hnm]
    simp only
    rw [if_neg (fun hc => by omega), hfin]
  unfold plOf
  rw [if_neg (by omega), hl]
  rfl
theorem pl_lines : ∀ (R : List Nat) (k m : Nat) (P : List (Option Ln)) (xs : List ByteArray), (∀ r ∈ R, okR r) → k + R.length ≤ 64 → xs.map (·.data.toList) = lines R k ++ [[]] → plFrom xs m P = .ok (P ++ ((lns R k).map some ++ [none])) := by
  intro R
  induction R with
  | nil =>
    intro k m P xs _ _ h
    match xs, h with
    | [x], h =>
      simp [lines] at h
      have hz : x.size = 0 := by rw [← ByteArray.size_data]; simp [h]
      simp only [plFrom, plOf, if_pos hz, lns, List.map_nil, List.nil_append]
    | x :: y :: z, h => simp [lines] at h
  | cons r t ih =>
    intro k m P xs hR hk h
    simp only [List.length_cons] at hk
    match xs, h with
    | x :: rest, h =>
      simp only [lines, List.map_cons, List.cons_append, List.cons.injEq] at h
      have hp := pl_vl (hR r (List.mem_cons_self ..)) (by omega) h.1
      simp only [plFrom, hp]
      rw [ih (k + 1) (m + 1) _ rest (fun y hy => hR y (List.mem_cons_of_mem _ hy)) (by omega) h.2]
      simp [lns]
theorem says_some (L : List Ln) : says (L.map some ++ [none]) = L := by
  unfold says
  rw [List.filterMap_append]
  simp
theorem lns_get : ∀ (R : List Nat) (k i : Nat), (lns R k)[i]? = (R[i]?).map fun (r : Nat) => (⟨false, (r : Int), 0, ((k + i : Nat) : Int)⟩ : Ln) := by
  intro R
  induction R with
  | nil => intro k i; simp [lns]
  | cons r t ih =>
    intro k i
    cases i with
    | zero => simp [lns]
    | succ i => simp only [lns, List.getElem?_cons_succ, ih]; rw [show k + 1 + i = k + (i + 1) by omega]
theorem lns_len (R : List Nat) : ∀ k, (lns R k).length = R.length := by
  induction R with
  | nil => intro k; rfl
  | cons r t ih => intro k; simp [lns, ih]
theorem lns_edge : ∀ (R : List Nat) (k : Nat), ∀ l ∈ lns R k, l.edge = false := by
  intro R
  induction R with
  | nil => intro k l hl; simp [lns] at hl
  | cons r t ih =>
    intro k l hl
    simp only [lns, List.mem_cons] at hl
    rcases hl with rfl | hl
    · rfl
    · exact ih _ l hl
theorem lns_twice {R : List Nat} (hn : R.Nodup) : first (twiceAt (lns R 0)) (lns R 0).length = none := by
  apply first_none
  intro j hj
  rw [lns_len] at hj
  unfold twiceAt
  rw [lns_get, List.getElem?_eq_getElem hj]
  simp only [Option.map_some, Bool.not_false, Bool.true_and]
  unfold hasV
  rw [List.any_eq_false]
  intro l hl
  obtain ⟨i, hi, rfl⟩ := List.getElem_of_mem hl
  rw [List.length_take, lns_len] at hi
  have hg : ((lns R 0).take j)[i]? = some (⟨false, (R[i]'(by omega) : Int), 0, ((0 + i : Nat) : Int)⟩ : Ln) := by
    rw [List.getElem?_take_of_lt (by omega), lns_get, List.getElem?_eq_getElem (show i < R.length by omega)]; rfl
  have he := (List.getElem?_eq_some_iff.1 hg).2
  rw [he]
  simp only [isV]
  intro hc
  simp at hc
  have hij : R[i]'(by omega) = R[j] := by omega
  have := (List.getElem_inj (h₀ := by omega) (h₁ := hj) hn).1 hij
  omega
theorem lns_loose (R : List Nat) : first (loose (lns R 0)) (lns R 0).length = none := by
  apply first_none
  intro j hj
  unfold loose
  cases hg : (lns R 0)[j]? with
  | none => rfl
  | some l =>
    have := lns_edge R 0 l (List.mem_of_getElem? hg)
    simp [this]
theorem lns_edges (R : List Nat) : edges (lns R 0) = 0 := by
  unfold edges
  rw [List.length_eq_zero_iff, List.filter_eq_nil_iff]
  intro l hl
  simp [lns_edge R 0 l hl]
/-- What the names and values are told as. -/
structure Told (R : List Nat) (T : Tb) : Prop where
  len : T.length = R.length
  srt : tsorted T
  mem : ∀ p ∈ T, ∃ i : Nat, ∃ h : i < R.length, p = ((R[i] : Int), (i : Int))
theorem verts_lns (R : List Nat) : ∀ p ∈ verts (lns R 0), ∃ i : Nat, ∃ h : i < R.length, p = ((R[i] : Int), (i : Int)) := by
  intro p hp
  unfold verts at hp
  obtain ⟨l, hl, rfl⟩ := List.mem_map.1 hp
  have hm := (List.mem_filter.1 hl).1
  obtain ⟨i, hi⟩ := List.getElem?_of_mem hm
  rw [lns_get] at hi
  have hlt : i < R.length := by
    apply Decidable.byContradiction
    intro hn
    rw [List.getElem?_eq_none (by omega)] at hi
    cases hi
  rw [List.getElem?_eq_getElem hlt] at hi
  simp only [Option.map_some, Option.some.injEq] at hi
  refine ⟨i, hlt, ?_⟩
  rw [← hi]
  simp
theorem spec_runed {s : ByteArray} {R : List Nat} (hR : ∀ r ∈ R, okR r) (hn : R.Nodup) (hl : R.length ≤ 64) (hs : s.data.toList = txt R 0) :
    ∃ L T, parseSpec s = .ok L ∧ Told R T ∧ (vs L (nv L)).map (fun l => (l.frm, l.n)) = T ∧ es L (nv L) (nv L) = [] := by
  have hsz : s.size ≤ 4000 := by
    have h1 := txt_len R 0
    have h2 : s.data.toList.length = s.size := by simp
    rw [hs] at h2
    omega
  have hgo := goes_txt (s := s) R 0 0 [] hR (by omega) (by rw [List.drop_zero, List.append_nil]; exact hs)
  have hend : s.size ≤ 0 + (txt R 0).length := by
    have h2 : s.data.toList.length = s.size := by simp
    rw [hs] at h2
    omega
  have hV : V s 0 := hgo.1.valid (V_end hend)
  have hsp : (split s 10).map (·.data.toList) = lines R 0 ++ [[]] := by
    have := split_spl s 10
    rw [hs, spl_txt R 0 hR (by omega)] at this
    exact this
  have hpl := pl_lines R 0 0 [] _ hR (by omega) hsp
  rw [List.nil_append] at hpl
  have hrd := spec_read (by omega) (bad_of_V hV) hpl
  have hgv := gv_at ((lns R 0).map some ++ [none])
  rw [says_some] at hrd hgv
  have hw : (wrongSpec (lns R 0) (numsFrom ((lns R 0).map some ++ [none]) 0)).1 = 0 := by
    unfold wrongSpec
    rw [lns_twice hn]
    simp only
    rw [lns_loose]
    simp only
    rw [if_neg (by rw [lns_edges, lns_len]; omega)]
  rw [if_pos hw] at hrd
  rcases hgv with ⟨i, h1, _⟩ | ⟨_, T, hT, hS, hP⟩
  · rw [lns_twice hn] at h1; cases h1
  · refine ⟨lns R 0, T, hrd, ⟨?_, hS, fun p hp => verts_lns R p (hP.mem_iff.1 hp)⟩, vs_eq hS hP, ?_⟩
    · rw [hP.length_eq, verts_len]
      unfold nv
      rw [lns_edges, lns_len]; omega
    · have he : edsOf (lns R 0) (lns R 0) = [] := by
        apply List.eq_nil_of_length_eq_zero
        rw [edsOf_len, lns_edges]
      exact (es_done (Y := []) hS hP (lns_loose R) (by rw [he]; exact St.refl _) (fun s t x y _ _ h3 => by rw [he] at h3; simp at h3)).symm
/-- A byte that belongs to no rune, ahead of a line. -/
theorem spec_broken {s : ByteArray} {R : List Nat} {rest : List UInt8} (hR : ∀ r ∈ R, okR r) (hl : R.length ≤ 64) (hs : s.data.toList = txt R 0 ++ 255 :: rest) (hr : rest.length ≤ 1000) :
    parseSpec s = .error (2, ((txt R 0).length : Int)) := by
  have h2 : s.data.toList.length = s.size := by simp
  have hsz : s.size ≤ 4000 := by
    have h1 := txt_len R 0
    rw [hs] at h2
    simp only [List.length_append, List.length_cons] at h2
    omega
  obtain ⟨g1, g2⟩ := goes_txt (s := s) R 0 0 (255 :: rest) hR (by omega) (by rw [List.drop_zero]; exact hs)
  rw [Nat.zero_add] at g1 g2
  obtain ⟨b1, b2, b3⟩ := bt_drop g2
  have hd : Utf8.decode s (txt R 0).length = (65533, 1) := by
    rw [dec]
    have b2' : bt s (txt R 0).length = 255 := b2
    simp only [Lib.decodeN, b2']
    simp
  have hb : bad s = some (txt R 0).length := g1.bad b1 hd s.size (by omega)
  exact spec_bad (by omega) hb
end Go.Proofs.YteflnddphpjahaaDoor.Sp
