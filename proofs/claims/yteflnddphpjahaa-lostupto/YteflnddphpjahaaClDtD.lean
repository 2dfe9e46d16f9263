import Derived.Test.YteflnddphpjahaaClDtC
import Derived.Deep.DeepMust
/-
  The table of names at a place of a block: Place, Get, Add, Set; what is kept.
-/
set_option linter.unusedVariables false
set_option linter.unusedSimpArgs false
set_option maxRecDepth 100000
namespace Go.Proofs.Yteflnddphpjahaa.Dk
open Go.RowKit

/-- What was there is as it was, at the blocks that 'ok' names. -/
structure Kept (w w' : World) (ok : Nat → Prop) : Prop where
  os : w'.os = w.os
  tape : w'.tape = w.tape
  output : w'.output = w.output
  size : w.heap.size ≤ w'.heap.size
  block : ∀ k, k < w.heap.size → ok k → w'.heap[k]? = w.heap[k]?
theorem Kept.refl (w : World) (ok : Nat → Prop) : Kept w w ok := ⟨rfl, rfl, rfl, Nat.le_refl _, fun _ _ _ => rfl⟩
theorem Kept.trans {a b c : World} {ok : Nat → Prop} (h : Kept a b ok) (k : Kept b c ok) : Kept a c ok :=
  ⟨k.os.trans h.os, k.tape.trans h.tape, k.output.trans h.output, Nat.le_trans h.size k.size, fun i hi ho => (k.block i (Nat.lt_of_lt_of_le hi h.size) ho).trans (h.block i hi ho)⟩
theorem Kept.mono {w w' : World} {ok ok' : Nat → Prop} (h : Kept w w' ok) (hk : ∀ k, k < w.heap.size → ok' k → ok k) : Kept w w' ok' := ⟨h.os, h.tape, h.output, h.size, fun i hi ho => h.block i hi (hk i hi ho)⟩
theorem Kept.below {w w' : World} (h : Below w.heap.size w w') (ok : Nat → Prop) : Kept w w' ok := ⟨h.os, h.tape, h.output, h.size, fun k hk _ => h.block k hk⟩
theorem Kept.toBelow {w w' : World} {ok : Nat → Prop} {B : Nat} (h : Kept w w' ok) (hB : B ≤ w.heap.size) (hk : ∀ k, k < B → ok k) : Below B w w' := ⟨h.os, h.tape, h.output, h.size, fun k hk' => h.block k (by omega) (hk k hk')⟩
theorem Kept.grown {w w' : World} {row : Option Nat} {ok : Nat → Prop} (h : w.grownBy w' row) (hk : ∀ k, ok k → row ≠ some k) : Kept w w' ok := ⟨h.os, h.tape, h.output, h.size, fun k hl ho => h.block k hl (fun e => hk k ho e.symm)⟩
theorem Kept.setCell {a w : World} {ok : Nat → Prop} (h : Kept a w ok) {p : Addr} (hp : ¬ ok p.block) (u : Value) : Kept a (w.setCell p u) ok :=
  ⟨h.os, h.tape, h.output, by simpa using h.size, fun k hk ho => (Below.heap_setCell w p u k (fun e => hp (e ▸ ho))).trans (h.block k hk ho)⟩
theorem Kept.setCell' {a w : World} {ok : Nat → Prop} (h : Kept a w ok) {p : Addr} (hp : ∀ k, k < a.heap.size → ok k → k ≠ p.block) (u : Value) : Kept a (w.setCell p u) ok :=
  ⟨h.os, h.tape, h.output, by simpa using h.size, fun k hk ho => (Below.heap_setCell w p u k (hp k hk ho)).trans (h.block k hk ho)⟩
theorem Kept.alloc {a w : World} {ok : Nat → Prop} (h : Kept a w ok) (o : Obj) : Kept a (w.alloc o) ok :=
  ⟨h.os, h.tape, h.output, by have := h.size; simp; omega, fun k hk ho => (Below.heap_alloc w o k (Nat.lt_of_lt_of_le hk h.size)).trans (h.block k hk ho)⟩
theorem Kept.drew {a w : World} {ok : Nat → Prop} (h : Kept a w ok) : Kept a w.drew ok := ⟨h.os, h.tape, h.output, h.size, h.block⟩
theorem own_kept {w w' : World} {B e size n : Nat} {v : Value} {xs : List Value} {ok : Nat → Prop} (h : w.ownsRow B e size v n xs) (hk : Kept w w' ok) (ho : ∀ g, v.ownBlock = some g → ok g) : w'.ownsRow B e size v n xs := by
  obtain ⟨h1, h2⟩ := h
  refine ⟨h1, ?_⟩
  rcases h2 with h2 | ⟨g, cap, cur, hv, hB, hg, r⟩
  · exact .inl h2
  · refine .inr ⟨g, cap, cur, hv, hB, ?_, r⟩
    rw [hk.block g (Array.getElem?_eq_some_iff.1 hg).1 (ho g (by rw [hv]; rfl)), hg]
/-- A row may be said to be owned from 0 on. -/
theorem own_zero {w : World} {B e size n : Nat} {v : Value} {xs : List Value} (h : w.ownsRow B e size v n xs) : w.ownsRow 0 e size v n xs := by
  obtain ⟨h1, h2⟩ := h
  refine ⟨h1, ?_⟩
  rcases h2 with h2 | ⟨g, cap, cur, hv, hB, hg, r⟩
  · exact .inl h2
  · exact .inr ⟨g, cap, cur, hv, Nat.zero_le _, hg, r⟩

/-- A table of names, at the place o of block D. -/
structure TabIn (w : World) (D o : Nat) (C : Array Value) (tD : TypeId) (v : Value) (T : Sd.Tb) : Prop where
  blk : w.heap[D]? = some (.cells C tD (0, 0))
  at_ : C[o]? = some v
  row : w.ownsRow 0 96 2 v T.length (tbCells T)
  srt : Sd.tsorted T
  len : T.length ≤ 100000
theorem TabIn.cell {w : World} {D o : Nat} {C : Array Value} {tD : TypeId} {v : Value} {T : Sd.Tb} (h : TabIn w D o C tD v T) : w.cell? ⟨D, o, none⟩ = some v := by
  rw [cell_of_row w D o _ _ _ h.blk]; exact h.at_
theorem TabIn.below {w w' : World} {D o : Nat} {C : Array Value} {tD : TypeId} {v : Value} {T : Sd.Tb} (h : TabIn w D o C tD v T) (hb : Below w.heap.size w w') : TabIn w' D o C tD v T :=
  ⟨(hb.block D (lt_of_block h.blk)).trans h.blk, h.at_, own_below h.row hb, h.srt, h.len⟩

theorem place_any (D o : Nat) (C : Array Value) (tD : TypeId) (v : Value) (T : Sd.Tb) (y : ByteArray) (w : World) (h : TabIn w D o C tD v T) :
    Calls Try.prog 72 #[.pointer (some ⟨D, o, none⟩), .string y] w fun e w' => e = .returned (.tuple #[.int .i64 (Sd.tlow T y : Nat), .bool (Sd.thas T y)]) ∧ Below w.heap.size w w' := by
  obtain ⟨p, cap, rfl, he⟩ := ents_of_own h.row
  have hc := h.cell
  have hT := h.srt
  have hl := h.len
  clear h
  go_enter Try.func72, Try.ntmps72
  go_wp2_with fail
  refine (search_any p cap T y w he hT hl).mono ?_
  rintro e w' ⟨rfl, hb⟩
  go_wp2
  exact bodyPost_ret (v := .tuple #[.int .i64 (Sd.tlow T y : Nat), .bool (Sd.thas T y)]) (by simp [results, Try.results72, go_sem]) rfl ⟨rfl, hb⟩

/-- A file, or none. -/
def optPtr : Option Nat → Value
  | some f => fptr f
  | none => .pointer none

set_option maxHeartbeats 1000000 in
theorem get_any (D o : Nat) (C : Array Value) (tD : TypeId) (v : Value) (T : Sd.Tb) (y : ByteArray) (w : World) (h : TabIn w D o C tD v T) :
    Calls Try.prog 60 #[.pointer (some ⟨D, o, none⟩), .string y] w fun e w' => e = .returned (.tuple #[optPtr (Sd.tget T y), .bool (Sd.thas T y)]) ∧ Below w.heap.size w w' := by
  have HTAB := hide h
  cases hh : Sd.thas T y with
  | false =>
    rw [Sd.tget_none hh]
    have HH := hide hh
    clear hh h
    go_enter Try.func60, Try.ntmps60
    go_wp2_with fail
    refine (place_any D o C tD v T y w (unhide HTAB)).mono ?_
    rintro e w1 ⟨rfl, hb⟩
    rw [unhide HH]
    go_wp2
    go_ret2
    exact ⟨rfl, hb⟩
  | true =>
    obtain ⟨hj, e1, e2⟩ := Sd.tget_at h.srt hh
    rw [e2]
    have hjl := Sd.tlow_le T y
    have hl := h.len
    have HH := hide hh
    clear hh h e1 e2
    go_enter Try.func60, Try.ntmps60
    go_wp2_with fail
    refine (place_any D o C tD v T y w (unhide HTAB)).mono ?_
    rintro e w1 ⟨rfl, hb⟩
    rw [unhide HH]
    have hc := ((unhide HTAB).below hb).cell
    obtain ⟨p, cap, rfl, he⟩ := ents_of_own ((unhide HTAB).below hb).row
    obtain ⟨g, hp, c0, c1⟩ := he (Sd.tlow T y) hj
    subst hp
    obtain ⟨f, hf⟩ : ∃ f, (T[Sd.tlow T y]).2 = f := ⟨_, rfl⟩
    rw [hf] at c1
    have HF := hide hf
    generalize Sd.tlow T y = i at hj hjl c0 c1 HF
    clear he hf
    unfold fptr at c1
    go_wp2
    go_ret2
    exact ⟨by rw [unhide HF]; rfl, hb⟩
end Go.Proofs.Yteflnddphpjahaa.Dk
