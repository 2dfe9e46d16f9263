import Derived.Test.YteflnddphpjahaaDoorClCqA
import Derived.Laws.EntriesVeiled
/-
  The program's findWord.
-/
set_option linter.unusedVariables false
set_option linter.unusedSimpArgs false
set_option maxRecDepth 100000
namespace Go.Proofs.YteflnddphpjahaaDoor
open Go.RowKit

theorem blk3 {w : World} {G t : Nat} {c0 c1 c2 : Value} (h : w.heap[G]? = some (.cells #[c0, c1, c2] t)) :
    w.cell? ⟨G, 0, none⟩ = some c0 ∧ w.cell? ⟨G, 1, none⟩ = some c1 ∧ w.cell? ⟨G, 2, none⟩ = some c2 ∧ ∀ j, w.frozen? ⟨G, j, none⟩ = false :=
  ⟨by simp [World.cell?, h], by simp [World.cell?, h], by simp [World.cell?, h], fun j => by simp [World.frozen?, h]⟩

/-- A number's own block. -/
def NumAt (w : World) (B : Nat) (n : Int) : Prop := w.heap[B]? = some (.cells #[.int .i64 n] 2)
theorem NumAt.cell {w : World} {B : Nat} {n : Int} (h : NumAt w B n) : w.cell? ⟨B, 0, none⟩ = some (.int .i64 n) := by
  unfold NumAt at h; simp [World.cell?, h]
def numWord (B : Nat) : Value := .agg #[.string ⟨#[]⟩, .bool false, .func (.func 136) #[] #[.pointer (some ⟨B, 0, none⟩)]]
set_option maxHeartbeats 1000000 in
theorem findWord_num (s : ByteArray) (k : Value) (w : World) (hs : s.size ≤ 4000) (n : Int) (hn : Hid (Sp.number s.data.toList = some n)) : Calls Tryd.prog 128 #[.string s, k] w fun e w' => ∃ B, w.heap.size ≤ B ∧ NumAt w' B n ∧ e = .returned (.tuple #[numWord B, .bool true]) ∧ Below w.heap.size w w' := by
  go_enter Tryd.func128, Tryd.ntmps128
  go_wp2_with fail
  refine (numRead_any s _ hs).mono ?_
  rintro e w1 ⟨rfl, hb1⟩
  rw [unhide hn]
  unfold numOut
  have hz := hb1.size
  simp at hz
  have h0 : w1.heap[w.heap.size]? = some (.cells #[.string ⟨#[]⟩, .bool false, .nilFunc] 172) := (hb1.block w.heap.size (by simp)).trans Array.getElem?_push_size
  have hb2 : Below w.heap.size w (w1.alloc (.cells #[.int .i64 n] 2)) := (((Below.refl w.heap.size w).alloc (Nat.le_refl _) _).trans (hb1.mono (by simp))).alloc (by omega) _
  have h1 : (w1.alloc (.cells #[.int .i64 n] 2)).heap[w.heap.size]? = _ := (((Below.refl w1.heap.size w1).alloc (Nat.le_refl _) (.cells #[.int .i64 n] 2)).block _ hz).trans h0
  obtain ⟨c0, c1, c2, cf⟩ := blk3 h1
  have f0 := cf 0
  have f1 := cf 1
  have f2 := cf 2
  have cn : NumAt (w1.alloc (.cells #[.int .i64 n] 2)) w1.heap.size n := heap_alloc_new w1 _
  clear h0 h1 cf
  have hlt : w.heap.size ≠ w1.heap.size := by omega
  have hc : ∀ (W : World) (j : Nat) (v : Value), NumAt W w1.heap.size n → NumAt (W.setCell ⟨w.heap.size, j, none⟩ v) w1.heap.size n := fun W j v h =>
    (Below.heap_setCell _ _ _ _ (fun e => hlt e.symm)).trans h
  have CN := hide cn
  clear cn
  go_wp2
  refine bodyPost_ret (v := .tuple #[numWord w1.heap.size, .bool true]) ?_ rfl ⟨w1.heap.size, by omega, hc _ _ _ (hc _ _ _ (hc _ _ _ (unhide CN))), rfl, ((hb2.setCell (Nat.le_refl _) _).setCell (Nat.le_refl _) _).setCell (Nat.le_refl _) _⟩
  simp [results, Tryd.results128, go_sem, numWord, c0, c1, c2]
def wordV (k : Nat) : Value := .agg #[.string (wordNm k), .bool (wordWt k), wordFn k]
def noWord : Value := .agg #[.string ⟨#[]⟩, .bool false, .nilFunc]
def FindW (x : List UInt8) (w : World) (e : Ending) (w' : World) : Prop :=
  Below w.heap.size w w' ∧ ((∃ k, k < 25 ∧ Sp.nms[k]! = x ∧ e = .returned (.tuple #[wordV k, .bool true])) ∨ ((∀ k, k < 25 → Sp.nms[k]! ≠ x) ∧ e = .returned (.tuple #[noWord, .bool false])))
set_option maxHeartbeats 1000000 in
theorem findWord_else (s : ByteArray) (b : Nat) (w : World) (hs : s.size ≤ 4000) (hW : WordsAt b w) (hn : Hid (Sp.number s.data.toList = none)) : Calls Tryd.prog 128 #[.string s, .slice (some ⟨b, 0, none⟩) 25 25] w (FindW s.data.toList w) := by
  go_enter Tryd.func128, Tryd.ntmps128
  go_wp2_with fail
  refine (numRead_any s _ hs).mono ?_
  rintro e w1 ⟨rfl, hb1⟩
  rw [unhide hn]
  unfold numOut
  have hz := hb1.size
  simp at hz
  have h0 : w1.heap[w.heap.size]? = some (.cells #[.string ⟨#[]⟩, .bool false, .nilFunc] 172) := (hb1.block w.heap.size (by simp)).trans Array.getElem?_push_size
  have hb2 : Below w.heap.size w (w1.alloc (.cells #[.int .i64 0] 2)) := (((Below.refl w.heap.size w).alloc (Nat.le_refl _) _).trans (hb1.mono (by simp))).alloc (by omega) _
  have h1 : (w1.alloc (.cells #[.int .i64 0] 2)).heap[w.heap.size]? = _ := (((Below.refl w1.heap.size w1).alloc (Nat.le_refl _) (.cells #[.int .i64 0] 2)).block _ hz).trans h0
  have hz1 : w.heap.size < (w1.alloc (.cells #[.int .i64 0] 2)).heap.size := by simp; omega
  go_wp2_with fail
  generalize (w1.alloc (.cells #[.int .i64 0] 2)) = W1 at *
  clear hb1 h0
  go_loopw [20] (fun i wr => ∃ k : Nat, k ≤ 25 ∧ i = .int .i64 k ∧ Below W1.heap.size W1 wr ∧ Hid (∀ j, j < k → Sp.nms[j]! ≠ s.data.toList)) (fun i _ => 25 - (intOf i).toNat)
  case atStart => exact ⟨0, by omega, rfl, Below.refl _ _, fun j hj => absurd hj (by omega)⟩
  case round =>
    obtain ⟨k, hk, rfl, hb, HK⟩ := hrel
    have hbw := hb2.trans (hb.mono (by omega))
    have h2 := (hb.block _ hz1).trans h1
    by_cases hlt : k < 25
    · obtain ⟨x0, x1, x2⟩ := words_cells (hW.below hbw) hlt
      rw [Nat.mul_comm 3 k] at x0 x1 x2
      have hk0 : (0 : Int) ≤ (k : Int) := Int.natCast_nonneg _
      have hk1 : (k : Int) < (25 : Int) := by omega
      obtain ⟨nm, HN⟩ : ∃ nm, Hid (nm = wordNm k) := ⟨_, rfl⟩
      obtain ⟨wt, HT⟩ : ∃ wt, Hid (wt = wordWt k) := ⟨_, rfl⟩
      obtain ⟨fk, HF⟩ : ∃ fk, Hid (Value.func (.func fk) #[] #[] = wordFn k) := ⟨_, rfl⟩
      rw [← unhide HN] at x0
      rw [← unhide HT] at x1
      rw [← unhide HF] at x2
      have hzr : w.heap.size < wr.heap.size := Nat.lt_of_lt_of_le hz1 hb.size
      have h3 : (wr.alloc (.cells #[.string nm, .bool wt, .func (.func fk) #[] #[]] 172)).heap[w.heap.size]? = _ := (((Below.refl wr.heap.size wr).alloc (Nat.le_refl _) (.cells #[.string nm, .bool wt, .func (.func fk) #[] #[]] 172)).block _ hzr).trans h2
      have hb3 := hbw.alloc (Nat.le_of_lt hzr) (.cells #[.string nm, .bool wt, .func (.func fk) #[] #[]] 172)
      obtain ⟨c0, c1, c2, cf⟩ := blk3 h3
      have f0 := cf 0
      have f1 := cf 1
      have f2 := cf 2
      clear cf h2 h1 h3
      by_cases hq : Sp.nms[k]! = s.data.toList
      · have HQ := hide hq
        have g : (nm.toList == s.toList) = true := by
          rw [unhide HN, toL s]; exact toList_is hq
        clear hq
        clear hzr
        go_wp2
        refine bodyPost_ret (v := .tuple #[wordV k, .bool true]) ?_ rfl ⟨((hb3.setCell (Nat.le_refl _) _).setCell (Nat.le_refl _) _).setCell (Nat.le_refl _) _, Or.inl ⟨k, hlt, unhide HQ, rfl⟩⟩
        simp [results, Tryd.results128, go_sem, wordV, c0, c1, c2, ← unhide HN, ← unhide HT, ← unhide HF]
      · have HQ := hide hq
        have g : (nm.toList == s.toList) = false := by
          rw [unhide HN, toL s]; exact toList_ne hq
        clear hq
        go_wp2
        go_roundw
        case rel => exact ⟨k + 1, by omega, by go_num, hb.alloc hb.size _, fun j hj => if h : j = k then h ▸ unhide HQ else unhide HK j (by omega)⟩
        case measure => simp [intOf]; omega
    · obtain rfl : k = 25 := by omega
      obtain ⟨c0, c1, c2, cf⟩ := blk3 h2
      have f0 := cf 0
      have f1 := cf 1
      have f2 := cf 2
      clear cf h2 h1
      go_wp2
      refine bodyPost_ret (v := .tuple #[noWord, .bool false]) ?_ rfl ⟨((hbw.setCell (Nat.le_refl _) _).setCell (Nat.le_refl _) _).setCell (Nat.le_refl _) _, Or.inr ⟨unhide HK, rfl⟩⟩
      simp [results, Tryd.results128, go_sem, noWord, c0, c1, c2]
end Go.Proofs.YteflnddphpjahaaDoor
