import Derived.Test.YteflnddphpjahaaClStB
/-
  Steady: what every act keeps (plain).
-/
set_option linter.unusedVariables false
set_option linter.unusedSimpArgs false
set_option maxRecDepth 100000
namespace Go.Proofs.Yteflnddphpjahaa.Dk
open Go.RowKit

/-- The file that stands under a name, and under no other; no change names either. -/
structure Holds (s : Sk) (F : Nat → Fl) (z : ByteArray) (fz : Nat) (G : Fl) : Prop where
  is : F fz = G
  inN : (z, fz) ∈ s.names
  inS : (z, fz) ∈ s.safe
  onlyN : ∀ a, (a, fz) ∈ s.names → a = z
  onlyS : ∀ a, (a, fz) ∈ s.safe → a = z
  chs : ∀ c ∈ s.chs, ¬ c.gone = z ∧ ¬ c.name = z ∧ ¬ c.file = some fz
theorem Holds.has {s : Sk} {F : Nat → Fl} {z : ByteArray} {fz : Nat} {G : Fl} (h : Holds s F z fz G) : s.has fz := Or.inl ⟨z, h.inN⟩
/-- A disk on which acts are done: m acts at most, files of N + 10 m bytes at most. -/
structure Inv (s : Sk) (F : Nat → Fl) (N m : Nat) : Prop where
  q : s.quota = 1099511627776
  ln : lets s.names
  ls : lets s.safe
  lc : ∀ c ∈ s.chs, okCh c
  nc : s.chs.length ≤ m
  sz : ∀ f, (F f).bytes.size ≤ N + 10 * m
  sf : ∀ f, (F f).safe ≤ (F f).bytes.size
theorem Inv.more {s : Sk} {F : Nat → Fl} {N m : Nat} (h : Inv s F N m) : Inv s F N (m + 1) :=
  ⟨h.q, h.ln, h.ls, h.lc, Nat.le_succ_of_le h.nc, fun f => Nat.le_trans (h.sz f) (by omega), h.sf⟩
theorem sz_upd {F : Nat → Fl} {b : Nat} (h : ∀ f, (F f).bytes.size ≤ b) (g : Nat) (x : Fl) (hx : x.bytes.size ≤ b) : ∀ f, (upd F g x f).bytes.size ≤ b := fun f => by
  by_cases e : f = g
  · rw [e, upd_same]; exact hx
  · rw [upd_other _ _ e]; exact h f
theorem sf_upd {F : Nat → Fl} (h : ∀ f, (F f).safe ≤ (F f).bytes.size) (g : Nat) (x : Fl) (hx : x.safe ≤ x.bytes.size) : ∀ f, (upd F g x f).safe ≤ (upd F g x f).bytes.size := fun f => by
  by_cases e : f = g
  · rw [e, upd_same]; exact hx
  · rw [upd_other _ _ e]; exact h f
theorem mem_snoc {L : List Ch} {c d : Ch} (h : c ∈ L ++ [d]) : c ∈ L ∨ c = d := by
  rcases List.mem_append.1 h with h | h
  · exact Or.inl h
  · exact Or.inr (List.mem_singleton.1 h)

/-- One file anew. -/
theorem Inv.file {s : Sk} {F : Nat → Fl} {N m : Nat} (h : Inv s F N m) (g : Nat) (x : Fl) (h1 : x.bytes.size ≤ N + 10 * m) (h2 : x.safe ≤ x.bytes.size) : Inv s (upd F g x) N m :=
  ⟨h.q, h.ln, h.ls, h.lc, h.nc, sz_upd h.sz g x h1, sf_upd h.sf g x h2⟩
theorem Holds.file {s : Sk} {F : Nat → Fl} {z : ByteArray} {fz : Nat} {G : Fl} (h : Holds s F z fz G) (g : Nat) (x : Fl) (hg : ¬ fz = g) : Holds s (upd F g x) z fz G :=
  ⟨by rw [upd_other _ _ hg]; exact h.is, h.inN, h.inS, h.onlyN, h.onlyS, h.chs⟩
/-- A change made. -/
theorem Inv.change {s : Sk} {F : Nat → Fl} {N m : Nat} (h : Inv s F N m) {c : Ch} (hc : okCh c) {T : Sd.Tb} (hT : lets T) : Inv { s with names := T, chs := s.chs ++ [c] } F N (m + 1) :=
  ⟨h.q, hT, h.ls, fun d hd => by
    rcases mem_snoc hd with hd | rfl
    · exact h.lc d hd
    · exact hc, by show (s.chs ++ [c]).length ≤ m + 1; rw [List.length_append]; have := h.nc; simp; omega, fun f => Nat.le_trans (h.sz f) (by omega), h.sf⟩
theorem Holds.change {s : Sk} {F : Nat → Fl} {z : ByteArray} {fz : Nat} {G : Fl} (h : Holds s F z fz G) {c : Ch} {T : Sd.Tb} (h1 : (z, fz) ∈ T) (h2 : ∀ a, (a, fz) ∈ T → a = z) (h3 : ¬ c.gone = z ∧ ¬ c.name = z ∧ ¬ c.file = some fz) : Holds { s with names := T, chs := s.chs ++ [c] } F z fz G :=
  ⟨h.is, h1, h.inS, h2, h.onlyS, fun d hd => by
    rcases mem_snoc hd with hd | rfl
    · exact h.chs d hd
    · exact h3⟩
/-- The names made safe. -/
theorem Inv.safe {s : Sk} {F : Nat → Fl} {N m : Nat} (h : Inv s F N m) : Inv { s with safe := s.names, chs := [] } F N (m + 1) :=
  ⟨h.q, h.ln, h.ln, fun c hc => by (cases hc), Nat.zero_le _, fun f => Nat.le_trans (h.sz f) (by omega), h.sf⟩
theorem Holds.safe {s : Sk} {F : Nat → Fl} {z : ByteArray} {fz : Nat} {G : Fl} (h : Holds s F z fz G) : Holds { s with safe := s.names, chs := [] } F z fz G :=
  ⟨h.is, h.inN, h.inN, h.onlyN, h.onlyN, fun c hc => by (cases hc)⟩
/-- The tables that the acts make keep the file under its name alone. -/
theorem hold_set {T : Sd.Tb} (hT : Sd.tsorted T) {z y : ByteArray} {fz f : Nat} (h1 : (z, fz) ∈ T) (h2 : ∀ a, (a, fz) ∈ T → a = z) (hy : ¬ z = y) (hf : ¬ fz = f) : (z, fz) ∈ Sd.tset T y f ∧ ∀ a, (a, fz) ∈ Sd.tset T y f → a = z :=
  ⟨tset_keep hT h1 hy, fun a ha => by
    rcases Sd.tset_mem ha with e | ha
    · exact absurd (congrArg Prod.snd e) hf
    · exact h2 a ha⟩
theorem hold_rem {T : Sd.Tb} (hT : Sd.tsorted T) {z y : ByteArray} {fz : Nat} (h1 : (z, fz) ∈ T) (h2 : ∀ a, (a, fz) ∈ T → a = z) (hy : ¬ z = y) : (z, fz) ∈ Sd.trem T y ∧ ∀ a, (a, fz) ∈ Sd.trem T y → a = z :=
  ⟨trem_keep hT h1 hy, fun a ha => h2 a (Sd.trem_mem ha)⟩
end Go.Proofs.Yteflnddphpjahaa.Dk
