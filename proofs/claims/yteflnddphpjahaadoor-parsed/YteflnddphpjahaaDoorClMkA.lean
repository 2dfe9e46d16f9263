import Derived.RangeFuncNested
import Derived.RangeFuncBound
import Derived.RangeFuncCalls
import Derived.RangeFuncLeaves
import Derived.RangeFuncBox
import Derived.Maps.AppendAt
import Derived.Shelf.Abstract
import Derived.Shelf.RegionOpen
import Derived.WalkKit
import Derived.OwnWalkIn
import Derived.TacticsInMore
import Derived.LoopNIn
import Derived.LoopIn
import Derived.Test.YteflnddphpjahaaDoorClTabDtoTabE
/-
  ordered.Table.All: a function that goes through the entries.
-/
set_option linter.unusedVariables false
set_option linter.unusedSimpArgs false
set_option maxRecDepth 100000
namespace Go.Proofs.YteflnddphpjahaaDoor
open Go.RowKit Go.Shelf
attribute [local go_sem] Oper.semAt_some

set_option maxHeartbeats 1000000 in
theorem all_in (F : Fence) (n : Nat) (h5 : F.fn 55) (hro : F.round = none) (p0 : Option Addr) (w : World) :
    CallsIn F n Tryd.prog 55 #[.pointer p0] w fun e w' => e = .returned (.func (.func 76) #[] #[.pointer (some ⟨w.heap.size, 0, none⟩)]) ∧ w' = w.alloc (.cells #[.pointer p0] 97) := by
  refine callsIn_of_wp Tryd.func55 rfl h5 ?_ hro
  simp only [Tryd.ntmps55, List.size_toArray, List.length_cons, List.length_nil, Nat.reduceAdd, Nat.reduceSub, Array.replicate_succ, Array.replicate_zero, List.push_toArray, List.append_toArray, List.nil_append, List.cons_append]
  gi_wp2
  go_ret
  exact ⟨rfl, rfl⟩

set_option maxHeartbeats 2000000 in
theorem all1_in (F : Fence) (n : Nat) (h8 : F.fn 76) (hro : F.round = none) (hn : 1 ≤ n) (l Bs t n₀ : Nat) (p : Option Addr) (cap : Nat) (T : Sp.Tb) (hl : T.length ≤ 100000) (J Jx : List (Int × Int) → World → Prop)
    (hY : ∀ pre x W, J pre W → pre.length < T.length → YieldAt F (n - 1) Tryd.prog l #[.int .i32 x.1, .int .i64 x.2] W fun e W' =>
      (e = .returned (.bool true) ∧ J (pre ++ [x]) W' ∧ Below n₀ W W') ∨ (e = .returned (.bool false) ∧ Jx (pre ++ [x]) W'))
    (W : World) (hn₀ : n₀ ≤ W.heap.size) (hJa : AbidesFrom W.heap.size J) (hBs : W.cell? ⟨Bs, 0, none⟩ = some (.pointer (some ⟨t, 0, none⟩))) (ht : W.cell? ⟨t, 0, none⟩ = some (.slice p T.length cap))
    (hc : ∀ j (hj : j < T.length), ∃ g, p = some ⟨g, 0, none⟩ ∧ g < n₀ ∧ W.cell? ⟨g, j * 2, none⟩ = some (.int .i32 T[j].1) ∧ W.cell? ⟨g, j * 2 + 1, none⟩ = some (.int .i64 T[j].2)) (h0 : J [] W) :
    CallsIn F n Tryd.prog 76 #[.func (.yield l) #[] #[], .pointer (some ⟨Bs, 0, none⟩)] W fun e W' => (∃ v, e = .returned v) ∧
      ((∃ ys, ys = T ∧ J ys W') ∨ (∃ pre, pre <+: T ∧ Jx pre W')) := by
  refine callsIn_of_wp Tryd.func76 rfl h8 ?_ hro
  simp only [Tryd.ntmps76, List.size_toArray, List.length_cons, List.length_nil, Nat.reduceAdd, Nat.reduceSub, Array.replicate_succ, Array.replicate_zero, List.push_toArray, List.append_toArray, List.nil_append, List.cons_append]
  gi_wp2
  gi_loopw [10] (fun i wr => ∃ k : Nat, k ≤ T.length ∧ i = .int .i64 k ∧ Hid (J (T.take k) wr) ∧ Below n₀ W wr)
    (fun i _ => T.length - (intOf i).toNat)
  case atStart => exact ⟨0, Nat.zero_le _, rfl, h0, Below.refl _ _⟩
  case round =>
    obtain ⟨k, hk, rfl, HJ, hnx⟩ := hrel
    by_cases hlt : k < T.length
    · obtain ⟨g, rfl, hg, c0, c1⟩ := hc k hlt
      have d0 := (hnx.cell (p := ⟨g, k * 2, none⟩) hg).trans c0
      have d1 := (hnx.cell (p := ⟨g, k * 2 + 1, none⟩) hg).trans c1
      have hltz : (k : Int) < (T.length : Int) := by omega
      obtain ⟨x, hx⟩ : ∃ x, T[k] = x := ⟨_, rfl⟩
      rw [hx] at d0 d1
      have HX := hide hx
      clear hx c0 c1
      have hJ1 : J (T.take k) (wr.alloc (.cells #[.int .i32 x.1, .int .i64 x.2] 160)) := hJa _ _ _ none (unhide HJ) (World.grownBy_alloc _ _ none) (fun r e => by cases e)
      obtain ⟨fn, tmps, assign, body, hy, hR⟩ := hY _ x _ hJ1 (by rw [List.length_take]; omega)
      clear hJ1
      gi_wp2
      refine hR.mono ?_
      rintro e W3 (⟨rfl, hJ3, hk3⟩ | ⟨rfl, hJx3⟩)
      · have HJ3 := hide hJ3
        clear hJ3
        gi_wp2
        go_roundw
        case rel => exact ⟨k + 1, by omega, by go_num, by show J _ _; rw [List.take_succ_eq_append_getElem hlt, unhide HX]; exact unhide HJ3, hnx.trans (((Below.refl _ _).alloc (Nat.le_trans hn₀ hnx.size) _).trans hk3)⟩
        case measure => simp [intOf]; omega
      · have HJ3 := hide hJx3
        clear hJx3
        gi_wp2
        refine bodyPost_ret (results_none rfl _ _ _) rfl ?_
        exact ⟨⟨_, rfl⟩, .inr ⟨_, ⟨T.drop (k + 1), by rw [← unhide HX, ← List.take_succ_eq_append_getElem hlt, List.take_append_drop]⟩, unhide HJ3⟩⟩
    · have hltz : ¬ (k : Int) < (T.length : Int) := by omega
      obtain rfl : k = T.length := by omega
      gi_wp2
      go_end0
      exact ⟨⟨_, rfl⟩, .inl (by have h := unhide HJ; simpa using h)⟩

theorem all_stops (F : Fence) (n : Nat) (h8 : F.fn 76) (hro : F.round = none) (hn : 1 ≤ n) (Bs t n₀ : Nat) (p : Option Addr) (cap : Nat) (T : Sp.Tb) (hl : T.length ≤ 100000) (w : World) (hBs' : Bs < w.heap.size) (hn₀ : n₀ ≤ w.heap.size) (htn : t < w.heap.size)
    (hBs : w.cell? ⟨Bs, 0, none⟩ = some (.pointer (some ⟨t, 0, none⟩))) (ht : w.cell? ⟨t, 0, none⟩ = some (.slice p T.length cap))
    (hc : ∀ j (hj : j < T.length), ∃ g, p = some ⟨g, 0, none⟩ ∧ g < n₀ ∧ w.cell? ⟨g, j * 2, none⟩ = some (.int .i32 T[j].1) ∧ w.cell? ⟨g, j * 2 + 1, none⟩ = some (.int .i64 T[j].2)) :
    SeqStopsK F n Tryd.prog 76 #[.pointer (some ⟨Bs, 0, none⟩)] (fun x : Int × Int => #[Value.int .i32 x.1, Value.int .i64 x.2]) (Below n₀) (fun ys => ys = T) (fun pre => pre <+: T) T.length w := fun l J Jx W hW hJ _ hY h0 =>
  all1_in F n h8 hro hn l Bs t n₀ p cap T hl J Jx hY W (Nat.le_trans hn₀ hW.size) hJ ((hW.cell (p := ⟨Bs, 0, none⟩) hBs').trans hBs) ((hW.cell (p := ⟨t, 0, none⟩) htn).trans ht)
    (fun j hj => by obtain ⟨g, e, hg, c0, c1⟩ := hc j hj; exact ⟨g, e, hg, (hW.cell (p := ⟨g, j * 2, none⟩) (Nat.lt_of_lt_of_le hg hn₀)).trans c0, (hW.cell (p := ⟨g, j * 2 + 1, none⟩) (Nat.lt_of_lt_of_le hg hn₀)).trans c1⟩) h0
end Go.Proofs.YteflnddphpjahaaDoor
