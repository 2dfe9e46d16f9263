import Derived.RangeFuncNested
import Derived.RangeFuncBound
import Derived.RangeFuncCalls
import Derived.RangeFuncLeaves
import Derived.RangeFuncBox
import Derived.Maps.AppendAt
import Derived.Shelf.Abstract
import Derived.Shelf.RegionOpen
import Derived.WalkKit
import Derived.OwnWalkIn
import Derived.TacticsInMore
import Derived.LoopNIn
import Derived.LoopIn
import Derived.Test.YteflnddphpjahaaClDtF
/-
  ordered.Table.All: a function that goes through the entries.
-/
set_option linter.unusedVariables false
set_option linter.unusedSimpArgs false
set_option maxRecDepth 100000
namespace Go.Proofs.Yteflnddphpjahaa.Dk
open Go.RowKit Go.Shelf
attribute [local go_sem] Oper.semAt_some

/-- What is kept of the first N blocks. -/
structure KeptN (N : Nat) (ok : Nat → Prop) (w w' : World) : Prop where
  os : w'.os = w.os
  tape : w'.tape = w.tape
  output : w'.output = w.output
  size : w.heap.size ≤ w'.heap.size
  block : ∀ k, k < N → ok k → w'.heap[k]? = w.heap[k]?
theorem KeptN.refl (N : Nat) (ok : Nat → Prop) (w : World) : KeptN N ok w w := ⟨rfl, rfl, rfl, Nat.le_refl _, fun _ _ _ => rfl⟩
theorem KeptN.trans {N : Nat} {ok : Nat → Prop} {a b c : World} (h : KeptN N ok a b) (k : KeptN N ok b c) : KeptN N ok a c :=
  ⟨k.os.trans h.os, k.tape.trans h.tape, k.output.trans h.output, Nat.le_trans h.size k.size, fun i hi ho => (k.block i hi ho).trans (h.block i hi ho)⟩
theorem KeptN.alloc {N : Nat} {ok : Nat → Prop} {a w : World} (h : KeptN N ok a w) (hN : N ≤ w.heap.size) (o : Obj) : KeptN N ok a (w.alloc o) :=
  ⟨h.os, h.tape, h.output, by have := h.size; simp; omega, fun k hk ho => (Below.heap_alloc w o k (by omega)).trans (h.block k hk ho)⟩
theorem KeptN.cell {N : Nat} {ok : Nat → Prop} {w w' : World} (h : KeptN N ok w w') {p : Addr} (hp : p.block < N) (ho : ok p.block) : w'.cell? p = w.cell? p := World.cell?_of_block (w := w) (h.block p.block hp ho)
theorem KeptN.of {N : Nat} {ok : Nat → Prop} {w w' : World} (h : Kept w w' ok) (hN : N ≤ w.heap.size) : KeptN N ok w w' := ⟨h.os, h.tape, h.output, h.size, fun k hk ho => h.block k (by omega) ho⟩
theorem KeptN.to {ok : Nat → Prop} {w w' : World} (h : KeptN w.heap.size ok w w') : Kept w w' ok := ⟨h.os, h.tape, h.output, h.size, h.block⟩
theorem KeptN.putObj {N : Nat} {ok : Nat → Prop} (W : World) (l : Nat) (o o' : Obj) (hl : N ≤ l) (h : W.heap[l]? = some o) : KeptN N ok W (W.putObj l o') := by
  have hg := grownBy_putObj' W l o'
  exact ⟨hg.os, hg.tape, hg.output, hg.size, fun k hk _ => hg.block k (by have := (Array.getElem?_eq_some_iff.1 h).1; omega) (by simp; omega)⟩

set_option maxHeartbeats 1000000 in
theorem all_in (F : Fence) (n : Nat) (h5 : F.fn 56) (hro : F.round = none) (p0 : Option Addr) (w : World) :
    CallsIn F n Try.prog 56 #[.pointer p0] w fun e w' => e = .returned (.func (.func 71) #[] #[.pointer (some ⟨w.heap.size, 0, none⟩)]) ∧ w' = w.alloc (.cells #[.pointer p0] 78) := by
  refine callsIn_of_wp Try.func56 rfl h5 ?_ hro
  simp only [Try.ntmps56, List.size_toArray, List.length_cons, List.length_nil, Nat.reduceAdd, Nat.reduceSub, Array.replicate_succ, Array.replicate_zero, List.push_toArray, List.append_toArray, List.nil_append, List.cons_append]
  gi_wp2
  go_ret
  exact ⟨rfl, rfl⟩

set_option maxHeartbeats 2000000 in
theorem all1_in (F : Fence) (n : Nat) (h8 : F.fn 71) (hro : F.round = none) (hn : 1 ≤ n) (l Bs D o N : Nat) (ok : Nat → Prop) (p : Option Addr) (cap : Nat) (T : Sd.Tb) (hl : T.length ≤ 100000) (J Jx : List { x : ByteArray × Nat // x ∈ T } → World → Prop)
    (hY : ∀ pre x W, J pre W → pre.length < T.length → YieldAt F (n - 1) Try.prog l #[.string x.1.1, fptr x.1.2] W fun e W' =>
      (e = .returned (.bool true) ∧ J (pre ++ [x]) W' ∧ KeptN N ok W W') ∨ (e = .returned (.bool false) ∧ Jx (pre ++ [x]) W'))
    (W : World) (hN : N ≤ W.heap.size) (hJa : AbidesFrom W.heap.size J) (hBs : W.cell? ⟨Bs, 0, none⟩ = some (.pointer (some ⟨D, o, none⟩))) (ht : W.cell? ⟨D, o, none⟩ = some (.slice p T.length cap))
    (hc : ∀ j (hj : j < T.length), ∃ g, p = some ⟨g, 0, none⟩ ∧ g < N ∧ ok g ∧ W.cell? ⟨g, j * 2, none⟩ = some (.string T[j].1) ∧ W.cell? ⟨g, j * 2 + 1, none⟩ = some (fptr T[j].2)) (h0 : J [] W) :
    CallsIn F n Try.prog 71 #[.func (.yield l) #[] #[], .pointer (some ⟨Bs, 0, none⟩)] W fun e W' => (∃ v, e = .returned v) ∧
      ((∃ ys, ys = T.attach ∧ J ys W') ∨ (∃ pre, pre <+: T.attach ∧ Jx pre W')) := by
  refine callsIn_of_wp Try.func71 rfl h8 ?_ hro
  simp only [Try.ntmps71, List.size_toArray, List.length_cons, List.length_nil, Nat.reduceAdd, Nat.reduceSub, Array.replicate_succ, Array.replicate_zero, List.push_toArray, List.append_toArray, List.nil_append, List.cons_append]
  gi_wp2
  gi_loopw [10] (fun i wr => ∃ k : Nat, k ≤ T.length ∧ i = .int .i64 k ∧ Hid (J (T.attach.take k) wr) ∧ KeptN N ok W wr)
    (fun i _ => T.length - (intOf i).toNat)
  case atStart => exact ⟨0, Nat.zero_le _, rfl, h0, KeptN.refl _ _ _⟩
  case round =>
    obtain ⟨k, hk, rfl, HJ, hnx⟩ := hrel
    by_cases hlt : k < T.length
    · obtain ⟨g, rfl, hg, hok, c0, c1⟩ := hc k hlt
      have d0 := (hnx.cell (p := ⟨g, k * 2, none⟩) hg hok).trans c0
      have d1 := (hnx.cell (p := ⟨g, k * 2 + 1, none⟩) hg hok).trans c1
      have hltz : (k : Int) < (T.length : Int) := by omega
      have hla : T.attach.length = T.length := List.length_attach
      obtain ⟨x, hx⟩ : ∃ x, T.attach[k]'(by omega) = x := ⟨_, rfl⟩
      have hxv : T[k] = x.1 := by rw [← hx]; simp
      rw [hxv] at d0 d1
      have HX := hide hx
      clear hx c0 c1 hxv
      have hJ1 : J (T.attach.take k) (wr.alloc (.cells #[.string x.1.1, fptr x.1.2] 96)) := hJa _ _ _ none (unhide HJ) (World.grownBy_alloc _ _ none) (fun r e => by cases e)
      obtain ⟨fn, tmps, assign, body, hy, hR⟩ := hY _ x _ hJ1 (by rw [List.length_take]; omega)
      clear hJ1
      unfold fptr at d1 hy hR
      gi_wp2
      refine hR.mono ?_
      rintro e W3 (⟨rfl, hJ3, hk3⟩ | ⟨rfl, hJx3⟩)
      · have HJ3 := hide hJ3
        clear hJ3
        gi_wp2
        go_roundw
        case rel => exact ⟨k + 1, by omega, by go_num, by show J _ _; rw [List.take_succ_eq_append_getElem (by omega), unhide HX]; exact unhide HJ3, hnx.trans (((KeptN.refl N ok _).alloc (Nat.le_trans hN hnx.size) _).trans hk3)⟩
        case measure => simp [intOf]; omega
      · have HJ3 := hide hJx3
        clear hJx3
        gi_wp2
        refine bodyPost_ret (results_none rfl _ _ _) rfl ?_
        exact ⟨⟨_, rfl⟩, .inr ⟨_, ⟨T.attach.drop (k + 1), by rw [← unhide HX, ← List.take_succ_eq_append_getElem (by omega), List.take_append_drop]⟩, unhide HJ3⟩⟩
    · have hltz : ¬ (k : Int) < (T.length : Int) := by omega
      obtain rfl : k = T.length := by omega
      gi_wp2
      go_end0
      exact ⟨⟨_, rfl⟩, .inl (by have h := unhide HJ; rw [List.take_of_length_le (by rw [List.length_attach]; omega)] at h; first | exact h | exact ⟨_, rfl, h⟩)⟩

theorem all_stops (F : Fence) (n : Nat) (h8 : F.fn 71) (hro : F.round = none) (hn : 1 ≤ n) (Bs D o N : Nat) (ok : Nat → Prop) (p : Option Addr) (cap : Nat) (T : Sd.Tb) (hl : T.length ≤ 100000) (w : World) (hBs' : Bs < w.heap.size) (hN : N ≤ w.heap.size) (htn : D < w.heap.size)
    (hBs : w.cell? ⟨Bs, 0, none⟩ = some (.pointer (some ⟨D, o, none⟩))) (ht : w.cell? ⟨D, o, none⟩ = some (.slice p T.length cap))
    (hc : ∀ j (hj : j < T.length), ∃ g, p = some ⟨g, 0, none⟩ ∧ g < N ∧ ok g ∧ w.cell? ⟨g, j * 2, none⟩ = some (.string T[j].1) ∧ w.cell? ⟨g, j * 2 + 1, none⟩ = some (fptr T[j].2)) :
    SeqStopsK F n Try.prog 71 #[.pointer (some ⟨Bs, 0, none⟩)] (fun x : { x : ByteArray × Nat // x ∈ T } => #[Value.string x.1.1, fptr x.1.2]) (KeptN N ok) (fun ys => ys = T.attach) (fun pre => pre <+: T.attach) T.length w := fun l J Jx W hW hJ _ hY h0 =>
  all1_in F n h8 hro hn l Bs D o N ok p cap T hl J Jx hY W (Nat.le_trans hN hW.size) hJ ((hW.cell (p := ⟨Bs, 0, none⟩) hBs').trans hBs) ((hW.cell (p := ⟨D, o, none⟩) htn).trans ht)
    (fun j hj => by obtain ⟨g, e, hg, hok, c0, c1⟩ := hc j hj; exact ⟨g, e, hg, hok, (hW.cell (p := ⟨g, j * 2, none⟩) (Nat.lt_of_lt_of_le hg hN)).trans c0, (hW.cell (p := ⟨g, j * 2 + 1, none⟩) (Nat.lt_of_lt_of_le hg hN)).trans c1⟩) h0
end Go.Proofs.Yteflnddphpjahaa.Dk
