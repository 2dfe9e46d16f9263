import Derived.Test.YteflnddphpjahaaClDtG
import Derived.Test.YteflnddphpjahaaClSeE
import Derived.Deep.DeepMust
/-
  A disk in memory; its smallest functions.
-/
set_option linter.unusedVariables false
set_option linter.unusedSimpArgs false
set_option maxRecDepth 100000
namespace Go.Proofs.Yteflnddphpjahaa.Dk
open Go.RowKit

/-- A file; a change; a disk that is not armed and not down. -/
structure Fl where
  bytes : ByteArray
  safe : Nat
structure Ch where
  gone : ByteArray
  name : ByteArray
  file : Option Nat
structure Sk where
  quota : Int
  names : Sd.Tb
  safe : Sd.Tb
  chs : List Ch
def byteCells (b : ByteArray) : List Value := b.data.toList.map fun x => .int .u8 x.toNat
theorem byteCells_len (b : ByteArray) : (byteCells b).length = b.size := by unfold byteCells; rw [List.length_map, Array.length_toList]; rfl
def chCells (L : List Ch) : List Value := L.flatMap fun c => [.string c.gone, .string c.name, optPtr c.file]
def dkCells (q : Int) (vn vs vc : Value) (l : Int) : Array Value := #[.int .i64 q, vn, vs, vc, .int .i64 l, .bool false, .bool false]

/-- A file in memory, from block B on. -/
structure FileAt (w : World) (B f : Nat) (F : Fl) (vb : Value) : Prop where
  ge : B ≤ f
  blk : w.heap[f]? = some (.cells #[vb, .int .i64 F.safe] 76 (0, 0))
  row : w.ownsRow B 5 1 vb F.bytes.size (byteCells F.bytes)
/-- The files that a disk has. -/
def Sk.has (s : Sk) (f : Nat) : Prop := (∃ a, (a, f) ∈ s.names) ∨ (∃ a, (a, f) ∈ s.safe) ∨ (∃ c, c ∈ s.chs ∧ c.file = some f)
/-- A disk in memory, from block B on. -/
structure DiskAt (w : World) (B D : Nat) (s : Sk) (F : Nat → Fl) (vn vs vc : Value) (l : Int) (vb : Nat → Value) : Prop where
  ge : B ≤ D
  blk : w.heap[D]? = some (.cells (dkCells s.quota vn vs vc l) 59 (0, 0))
  rn : w.ownsRow B 96 2 vn s.names.length (tbCells s.names)
  rs : w.ownsRow B 96 2 vs s.safe.length (tbCells s.safe)
  rc : w.ownsRow B 70 3 vc s.chs.length (chCells s.chs)
  sn : Sd.tsorted s.names
  ss : Sd.tsorted s.safe
  apart : ∀ g, vn.ownBlock = some g → vs.ownBlock ≠ some g
  files : ∀ f, s.has f → FileAt w B f (F f) (vb f)
  fapart : ∀ f f', s.has f → s.has f' → f ≠ f' → ∀ g, (vb f).ownBlock = some g → (vb f').ownBlock ≠ some g

set_option maxHeartbeats 400000 in
theorem dnew_any (q : Int) (w : World) : Calls Try.prog 29 #[.int .i64 q] w fun e w' => e = .returned (.agg (dkCells q (.slice none 0 0) (.slice none 0 0) (.slice none 0 0) 0)) ∧ Below w.heap.size w w' ∧ w'.heap.size = w.heap.size + 1 := by
  go_enter Try.func29, Try.ntmps29
  go_wp2
  refine bodyPost_ret (v := .agg (dkCells q (.slice none 0 0) (.slice none 0 0) (.slice none 0 0) 0)) (by simp [results, Try.results29, go_sem, dkCells]) rfl ⟨rfl, ?_, by simp⟩
  exact (Below.refl _ w).alloc (Nat.le_refl _) _
set_option maxHeartbeats 400000 in
theorem newDisk_any (q : Int) (w : World) : Calls Try.prog 13 #[.int .i64 q] w fun e w' => e = .returned (.pointer (some ⟨w.heap.size + 1, 0, none⟩)) ∧ Below w.heap.size w w' ∧
    DiskAt w' w.heap.size (w.heap.size + 1) ⟨q, [], [], []⟩ (fun _ => ⟨⟨#[]⟩, 0⟩) (.slice none 0 0) (.slice none 0 0) (.slice none 0 0) 0 (fun _ => .slice none 0 0) := by
  go_enter Try.func13, Try.ntmps13
  go_wp2_with fail
  refine (dnew_any q w).mono ?_
  rintro e w1 ⟨rfl, hb, hz⟩
  unfold dkCells
  go_wp2
  go_ret
  have hblk := heap_alloc_new w1 (.cells (dkCells q (.slice none 0 0) (.slice none 0 0) (.slice none 0 0) 0) 59)
  rw [hz] at hblk
  have hno : ∀ f, ¬ (Sk.mk q [] [] []).has f := fun f h => by
    rcases h with ⟨a, h⟩ | ⟨a, h⟩ | ⟨c, h, _⟩ <;> cases h
  refine ⟨rfl, hb.alloc (by omega) _, ⟨by omega, hblk, World.ownsRow_nil _ _ _ _, World.ownsRow_nil _ _ _ _, World.ownsRow_nil _ _ _ _, List.Pairwise.nil, List.Pairwise.nil, fun g h => by simp [Value.ownBlock] at h, fun f h => absurd h (hno f), fun f f' h => absurd h (hno f)⟩⟩

set_option maxHeartbeats 400000 in
theorem operates_any (D : Nat) (q : Int) (vn vs vc : Value) (l : Int) (w : World) (h : w.heap[D]? = some (.cells (dkCells q vn vs vc l) 59 (0, 0))) :
    Calls Try.prog 47 #[.pointer (some ⟨D, 0, none⟩)] w fun e w' => e = .returned (.bool true) ∧ w' = w := by
  have c5 : w.cell? ⟨D, 5, none⟩ = some (.bool false) := by rw [cell_of_row w D 5 _ _ _ h]; rfl
  have c6 : w.cell? ⟨D, 6, none⟩ = some (.bool false) := by rw [cell_of_row w D 6 _ _ _ h]; rfl
  clear h
  go_enter Try.func47, Try.ntmps47
  go_wp2
  go_ret
  exact ⟨rfl, rfl⟩

theorem nameByte_any (c : Nat) (w : World) (h1 : 97 ≤ c) (h2 : c ≤ 122) : Calls Try.prog 67 #[.int .u8 c] w fun e w' => e = .returned (.bool true) ∧ w' = w := by
  have h1' : (97 : Int) ≤ c := by omega
  have h2' : (c : Int) ≤ 122 := by omega
  go_enter Try.func67, Try.ntmps67
  go_wp2
  go_ret
  exact ⟨rfl, rfl⟩
/-- A name of one letter. -/
structure Letter (s : ByteArray) : Prop where
  one : s.size = 1
  lo : 97 ≤ Sp.bt s 0
  hi : Sp.bt s 0 ≤ 122
set_option maxHeartbeats 400000 in
theorem isName_any (s : ByteArray) (w : World) (h : Letter s) : Calls Try.prog 48 #[.string s] w fun e w' => e = .returned (.bool true) ∧ w' = w := by
  have hne : (s.toList == []) = false := by
    apply Bool.eq_false_iff.2
    intro hh
    have h1 : s.toList = [] := eq_of_beq hh
    rw [ByteArray.toList_eq] at h1
    have h2 := h.one
    have : s.data.toList.length = 1 := by rw [Array.length_toList]; exact h2
    rw [h1] at this; cases this
  have hs : s.size ≤ 1 := by rw [h.one]; omega
  have hlo := h.lo
  have hhi := h.hi
  have hb := Sp.bt_of s 0 (by rw [h.one]; omega)
  have hs1 : 1 ≤ s.size := by rw [h.one]; omega
  rw [← hb] at hlo hhi
  clear hb
  go_enter Try.func48, Try.ntmps48
  go_wp2
  go_loopw [13] (fun ii wr => ∃ i : Nat, i ≤ 1 ∧ ii = .int .i64 i ∧ wr = w) (fun ii _ => 1 - (intOf ii).toNat)
  case atStart => exact ⟨0, by omega, rfl, rfl⟩
  case round =>
    obtain ⟨i, hi, rfl, rfl⟩ := hrel
    by_cases c : i < 1
    · have e : i = 0 := by omega
      subst e
      go_wp2_with (go_at_call 67; refine (nameByte_any _ _ hlo hhi).mono ?_; rintro e w' ⟨rfl, hw⟩; obtain rfl := hw.symm)
      go_roundw
      case rel => exact ⟨1, by omega, by go_num, by first | rfl | trivial⟩
      case measure => simp [intOf]
    · have e : i = 1 := by omega
      subst e
      go_wp2
      go_ret
      exact ⟨rfl, rfl⟩
set_option maxHeartbeats 400000 in
theorem created_any (s : ByteArray) (w : World) (hs : s.size ≤ 100) : Calls Try.prog 50 #[.string s] w fun e w' => ∃ f, e = .returned (.agg #[.string ⟨#[]⟩, .string s, fptr f]) ∧ Below w.heap.size w w' ∧ w.heap.size ≤ f ∧ w'.heap[f]? = some (.cells #[.slice none 0 0, .int .i64 0] 76 (0, 0)) := by
  go_enter Try.func50, Try.ntmps50
  go_wp2_with fail
  refine (clone_any s _ (by omega)).mono ?_
  rintro e w1 ⟨rfl, hb⟩
  have hz := hb.size
  have hrb : w1.heap[w.heap.size]? = some (.cells #[.string ⟨#[]⟩, .string ⟨#[]⟩, .pointer none] 70 (0, 0)) := (hb.block w.heap.size (by simp)).trans (heap_alloc_new w _)
  have c0 : w1.cell? ⟨w.heap.size, 0, none⟩ = some (.string ⟨#[]⟩) := by rw [cell_of_row w1 _ 0 _ _ _ hrb]; rfl
  have c1 : w1.cell? ⟨w.heap.size, 1, none⟩ = some (.string ⟨#[]⟩) := by rw [cell_of_row w1 _ 1 _ _ _ hrb]; rfl
  have c2 : w1.cell? ⟨w.heap.size, 2, none⟩ = some (.pointer none) := by rw [cell_of_row w1 _ 2 _ _ _ hrb]; rfl
  have f0 : w1.frozen? ⟨w.heap.size, 0, none⟩ = false := by simp [World.frozen?, hrb]
  have f1 : w1.frozen? ⟨w.heap.size, 1, none⟩ = false := by simp [World.frozen?, hrb]
  have f2 : w1.frozen? ⟨w.heap.size, 2, none⟩ = false := by simp [World.frozen?, hrb]
  have hsz : w.heap.size < w1.heap.size := by simp at hz; omega
  go_wp2
  have hp3 : ((((w1.setCell ⟨w.heap.size, 0, none⟩ (.string ⟨#[]⟩)).setCell ⟨w.heap.size, 1, none⟩ (.string s)).setCell ⟨w.heap.size, 2, none⟩ (.pointer (some ⟨w1.heap.size, 0, none⟩))).alloc (.cells #[.slice none 0 0, .int .i64 0] 76)).heap[w.heap.size]? = some (.cells #[.string ⟨#[]⟩, .string s, .pointer (some ⟨w1.heap.size, 0, none⟩)] 70 (0, 0)) := by
    rw [Below.heap_alloc _ _ _ (by simpa using hsz)]
    have h1 := heap_setCell_same w1 w.heap.size 0 _ _ (.string ⟨#[]⟩) hrb
    have h2 := heap_setCell_same _ w.heap.size 1 _ _ (.string s) h1
    have h3 := heap_setCell_same _ w.heap.size 2 _ _ (.pointer (some ⟨w1.heap.size, 0, none⟩)) h2
    exact h3
  have hb3 : Below w.heap.size w ((((w1.setCell ⟨w.heap.size, 0, none⟩ (.string ⟨#[]⟩)).setCell ⟨w.heap.size, 1, none⟩ (.string s)).setCell ⟨w.heap.size, 2, none⟩ (.pointer (some ⟨w1.heap.size, 0, none⟩))).alloc (.cells #[.slice none 0 0, .int .i64 0] 76)) :=
    ((((((Below.refl _ w).alloc (Nat.le_refl _) _).trans (hb.mono (by simp))).setCell (Nat.le_refl _) _).setCell (Nat.le_refl _) _).setCell (Nat.le_refl _) _).alloc (by simp; omega) _
  have hf3 : ((((w1.setCell ⟨w.heap.size, 0, none⟩ (.string ⟨#[]⟩)).setCell ⟨w.heap.size, 1, none⟩ (.string s)).setCell ⟨w.heap.size, 2, none⟩ (.pointer (some ⟨w1.heap.size, 0, none⟩))).alloc (.cells #[.slice none 0 0, .int .i64 0] 76)).heap[w1.heap.size]? = some (.cells #[.slice none 0 0, .int .i64 0] 76 (0, 0)) := by
    have h := heap_alloc_new (((w1.setCell ⟨w.heap.size, 0, none⟩ (.string ⟨#[]⟩)).setCell ⟨w.heap.size, 1, none⟩ (.string s)).setCell ⟨w.heap.size, 2, none⟩ (.pointer (some ⟨w1.heap.size, 0, none⟩))) (.cells #[.slice none 0 0, .int .i64 0] 76)
    simpa using h
  generalize ((((w1.setCell ⟨w.heap.size, 0, none⟩ (.string ⟨#[]⟩)).setCell ⟨w.heap.size, 1, none⟩ (.string s)).setCell ⟨w.heap.size, 2, none⟩ (.pointer (some ⟨w1.heap.size, 0, none⟩))).alloc (.cells #[.slice none 0 0, .int .i64 0] 76)) = W at hp3 hb3 hf3 ⊢
  have m0 : W.cell? ⟨w.heap.size, 0, none⟩ = some (.string ⟨#[]⟩) := by rw [cell_of_row W _ 0 _ _ _ hp3]; rfl
  have m1 : W.cell? ⟨w.heap.size, 1, none⟩ = some (.string s) := by rw [cell_of_row W _ 1 _ _ _ hp3]; rfl
  have m2 : W.cell? ⟨w.heap.size, 2, none⟩ = some (.pointer (some ⟨w1.heap.size, 0, none⟩)) := by rw [cell_of_row W _ 2 _ _ _ hp3]; rfl
  exact bodyPost_ret (v := .agg #[.string ⟨#[]⟩, .string s, fptr w1.heap.size]) (by simp [results, Try.results50, go_sem, m0, m1, m2, fptr]) rfl ⟨w1.heap.size, rfl, hb3, by omega, hf3⟩
end Go.Proofs.Yteflnddphpjahaa.Dk
