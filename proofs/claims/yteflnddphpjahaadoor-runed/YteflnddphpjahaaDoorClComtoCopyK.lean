import Derived.WalkKit
import Derived.Laws.CopyRow
import Derived.Laws.CopyOwn
/-
  Small laws on worlds, of whatever program.
-/
set_option linter.unusedVariables false
set_option linter.unusedSimpArgs false
namespace Go.Proofs.YteflnddphpjahaaDoor
open Go.RowKit
theorem hide {p : Prop} (h : p) : Hid p := h
theorem unhide {p : Prop} (h : Hid p) : p := h

/-- An owned row stays, where nothing that was there has turned. -/
theorem own_below {w w' : World} {B e size n : Nat} {v : Value} {xs : List Value} (h : w.ownsRow B e size v n xs) (hb : Below w.heap.size w w') : w'.ownsRow B e size v n xs := by
  obtain ⟨h1, h2⟩ := h
  refine ⟨h1, ?_⟩
  rcases h2 with h2 | ⟨g, cap, cur, hv, hB, hg, r⟩
  · exact .inl h2
  · refine .inr ⟨g, cap, cur, hv, hB, ?_, r⟩
    rw [hb.block g (Array.getElem?_eq_some_iff.1 hg).1, hg]

/-- Two owned rows of two types are not one. -/
theorem own_ne {w : World} {B B' e e' s s' n n' : Nat} {v v' : Value} {xs xs' : List Value} (h : w.ownsRow B e s v n xs) (h' : w.ownsRow B' e' s' v' n' xs') (he : e ≠ e') : v.ownBlock = none ∨ v.ownBlock ≠ v'.ownBlock := by
  obtain ⟨_, h1⟩ := h
  obtain ⟨_, h2⟩ := h'
  rcases h1 with ⟨rfl, _⟩ | ⟨g, cap, cur, rfl, hB, hg, _⟩
  · exact .inl rfl
  · right
    rcases h2 with ⟨rfl, _⟩ | ⟨g', cap', cur', rfl, hB', hg', _⟩
    · intro h; cases h
    · intro h
      have hgg : g = g' := by simpa [Value.ownBlock] using h
      subst hgg
      rw [hg] at hg'
      injection hg' with hg'
      injection hg' with _ hg'
      exact he hg'

/-- What one append of one element leaves: the row; the old memory. -/
theorem rel_app {B e size n : Nat} {xs ys : List Value} {w wr w1 : World} {v v' : Value} (hB : B ≤ wr.heap.size)
    (hown : wr.ownsRow B e size v n xs) (hnx : Below B w wr) (hgrow : wr.grownBy w1 v.ownBlock) : Below B w w1 :=
  hnx.grown hgrow hB (fun j hj => by have := (hown.lt j hj).1; omega)
/-- Another row of another type stays. -/
theorem own_app {B B' e e' s s' n n' : Nat} {xs ys : List Value} {wr w1 : World} {v u : Value} (hv : wr.ownsRow B e s v n xs) (hu : wr.ownsRow B' e' s' u n' ys) (he : e' ≠ e) (hgrow : wr.grownBy w1 v.ownBlock) : w1.ownsRow B' e' s' u n' ys :=
  hu.kept hgrow (own_ne hu hv he)
end Go.Proofs.YteflnddphpjahaaDoor
/-
  copy between rows whose elements have several cells; a law of no program.
-/
set_option linter.unusedVariables false
set_option linter.unusedSimpArgs false
namespace Go.Proofs.YteflnddphpjahaaDoor
open Go.RowKit

theorem run_copy_rowK {P : Program} (w : World) (dT sT ty elem : TypeId) (sz g o dLen dCap : Nat) (a : Addr) (sLen sCap : Nat) (cur : Array Value) (t : TypeId) (cs : List Value)
    (hu : P.underlying dT = some (.slice elem)) (hs : (P.info? elem).map (·.size) = some sz)
    (hg : w.heap[g]? = some (.cells cur t (0, 0))) (k : Nat) (hk : Nat.min sLen dLen = k) (hn : cs.length = k * sz)
    (hsrc : ∀ j v, cs[j]? = some v → w.cell? (a.add j) = some v) (hfit : o + cs.length ≤ cur.size) (h1 : ∀ v ∈ cs, v.oneCell' = true) :
    (Builtin.copy_ #[dT, sT] ty #[.slice (some ⟨g, o, none⟩) dLen dCap, .slice (some a) sLen sCap]).run P w =
      .ok (goInt k) (w.setRow g (cur.toList.take o ++ cs ++ cur.toList.drop (o + cs.length)).toArray) := by
  have hl := run_loadCells_list (P := P) w a cs hsrc
  have hst := run_storeCells_at P g o t cs 0 cur w hg (by simpa using hfit) h1
  cases hq : P.info? elem with
  | none => simp [hq] at hs
  | some i =>
    have hi : i.size = sz := by simpa [hq] using hs
    simp [Builtin.copy_, run_underlying hu, Builtin.lenOf, Builtin.firstCells, sizeOf, typeInfo, hq, hi, hk, ← hn, hl, hst]
end Go.Proofs.YteflnddphpjahaaDoor
