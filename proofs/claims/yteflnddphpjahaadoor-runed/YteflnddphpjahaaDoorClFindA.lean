import Derived.Test.YteflnddphpjahaaDoorClLineD
import Derived.Lib.OthersKept
import Derived.WalkSmall
import Derived.Deep.DeepMust
/-
  The program's findNoRune.
-/
set_option linter.unusedVariables false
set_option linter.unusedSimpArgs false
set_option maxRecDepth 100000
namespace Go.Proofs.YteflnddphpjahaaDoor
open Go.RowKit

theorem Sp.bt_out (s : ByteArray) (i : Nat) (h : ¬ i < s.size) : Sp.bt s i = 0 := by
  unfold Sp.bt
  cases s with | mk d =>
  show (d[i]!).toNat = 0
  rw [getElem!_neg d i h]; rfl
theorem Sp.bt_end (s : ByteArray) (k p : Nat) (hk : k ≤ s.size) : Sp.bt (s.extract k s.size) p = Sp.bt s (k + p) := by
  by_cases h : k + p < s.size
  · exact Sp.bt_ex s k s.size p (Nat.le_refl _) h
  · rw [Sp.bt_out _ _ (by simp; omega), Sp.bt_out _ _ (by omega)]
theorem Sp.dec_end (s : ByteArray) (k : Nat) (hk : k < s.size) : Utf8.decode (s.extract k s.size) 0 = Utf8.decode s k := by
  rw [Sp.dec, Sp.dec]
  have hz : (s.extract k s.size).size - 0 = s.size - k := by simp
  rw [hz, Sp.bt_end s k _ (by omega), Sp.bt_end s k _ (by omega), Sp.bt_end s k _ (by omega), Sp.bt_end s k _ (by omega)]
  simp only [Nat.add_zero, Nat.zero_add]
theorem Sp.go_end (s : ByteArray) (k : Nat) (hk : k < s.size) : Lib.decodeGo (s.extract k s.size) = Utf8.decode s k := by
  unfold Lib.decodeGo
  rw [if_neg (by simp; omega), Sp.dec_end s k hk]

theorem tabs_below {w w' : World} (h : Lib.Utf8Tabs 2 3 w) (hb : Below w.heap.size w w') : Lib.Utf8Tabs 2 3 w' := by
  obtain ⟨h1, h2⟩ := h
  refine ⟨fun c hc => ?_, fun i hi => ⟨?_, ?_⟩⟩
  · rw [hb.cell (World.block_lt_of_cell? w _ (h1 c hc))]; exact h1 c hc
  · rw [hb.cell (World.block_lt_of_cell? w _ (h2 i hi).1)]; exact (h2 i hi).1
  · rw [hb.cell (World.block_lt_of_cell? w _ (h2 i hi).2)]; exact (h2 i hi).2

def FindPost (s : ByteArray) (w : World) (e : Ending) (w' : World) : Prop :=
  Below w.heap.size w w' ∧ match Sp.bad s with
    | some i => e = .returned (.tuple #[.int .i64 (i : Nat), .bool true])
    | none => e = .returned (.tuple #[.int .i64 0, .bool false])

set_option maxHeartbeats 1000000 in
theorem findNoRune_any (s : ByteArray) (w : World) (hs : s.size ≤ 4000) (hT : Lib.Utf8Tabs 2 3 w) : Calls Tryd.prog 37 #[.string s] w (FindPost s w) := by
  have HT := hide hT
  clear hT
  go_enter Tryd.func37, Tryd.ntmps37
  go_wp2
  go_loopw [2] (fun _ wr => ∃ (k f : Nat), k ≤ s.size ∧ s.size - k ≤ f ∧ wr.heap[w.heap.size]? = some (.stringIter s k) ∧ Below w.heap.size w wr ∧ Hid (Sp.badFrom s f k = Sp.bad s)) (fun _ wr => s.size - wr.iterPos w.heap.size)
  case atStart => exact ⟨0, s.size, Nat.zero_le _, by omega, World.iter_heap w s 0, (Below.refl _ _).alloc (Nat.le_refl _) _, rfl⟩
  case round =>
    obtain ⟨k, f, hk, hf, hit, hbw, HB⟩ := hrel
    have hpos0 := iterPos_of hit
    by_cases hlt : k < s.size
    · obtain ⟨f, rfl⟩ : ∃ g, f = g + 1 := ⟨f - 1, by omega⟩
      have hsz := Sp.dec_size hlt
      have HG := hide (Sp.go_end s k hlt)
      have hnx : ∀ ty, (Instr.next (.pointer (some ⟨w.heap.size, 0, none⟩)) true ty).run Tryd.prog wr = _ := fun ty => Lib.run_next_any_at wr w.heap.size s k ty hit hlt
      have hit2 := Lib.iterAt_heap wr w.heap.size s k (k + (Utf8.decode s k).2) hit
      have hbw2 := Lib.below_iterAt hbw (k := w.heap.size) (Nat.le_refl _) s (k + (Utf8.decode s k).2)
      obtain ⟨W1, hW1⟩ : ∃ W1, W1 = wr.iterAt w.heap.size s (k + (Utf8.decode s k).2) := ⟨_, rfl⟩
      rw [← hW1] at hnx hit2 hbw2
      clear hW1 hit hbw
      have hx : s.extract k s.size = s.extract k s.size := rfl
      by_cases hd : Utf8.decode s k = (65533, 1)
      · have HE : Hid (Sp.bad s = some k) := by
          show _ = _; rw [← HB.out]; simp only [Sp.badFrom]; rw [if_pos hlt, if_pos hd]
        have HD := hide hd
        rw [hd] at hnx
        have HT2 := hide (tabs_below (unhide HT) hbw2)
        clear hd hsz
        go_wp2_with fail
        refine (Tryd.utf8_DecodeRuneInString _ _ (unhide HT2)).mono ?_
        rintro e w2 ⟨rfl, hb2⟩
        rw [unhide HG, unhide HD]
        go_wp2
        exact bodyPost_ret (v := .tuple #[.int .i64 k, .bool true]) (by simp [results, Tryd.results37, go_sem]) rfl ⟨hbw2.trans (hb2.mono hbw2.size), by rw [unhide HE]⟩
      · have HE : Hid (Sp.badFrom s f (k + (Utf8.decode s k).2) = Sp.bad s) := by
          show _ = _; rw [← HB.out]; simp only [Sp.badFrom]; rw [if_pos hlt, if_neg hd]
        by_cases h1 : (Utf8.decode s k).1 = 65533
        · have h2 : ¬ (Utf8.decode s k).2 = 1 := fun h => hd (Prod.ext h1 h)
          have HT2 := hide (tabs_below (unhide HT) hbw2)
          clear hd
          generalize Utf8.decode s k = D at *
          obtain ⟨d1, d2⟩ := D
          simp only at h1 h2 hsz hit2 hnx
          subst h1
          have hne : (((d2 : Nat) : Int) == 1) = false := beq_eq_false_iff_ne.2 (by omega)
          go_wp2_with fail
          refine (Tryd.utf8_DecodeRuneInString _ _ (unhide HT2)).mono ?_
          rintro e w2 ⟨rfl, hb2⟩
          rw [unhide HG]
          have hit3 := (hb2.block _ (lt_of_block hit2)).trans hit2
          go_wp2
          go_roundw
          case rel => exact ⟨k + d2, f, by omega, by omega, hit3, hbw2.trans (hb2.mono hbw2.size), HE⟩
          case measure => rw [iterPos_of hit3, hpos0]; omega
        · have hne : ((((Utf8.decode s k).1 : Nat) : Int) != 65533) = true := by rw [bne_iff_ne]; omega
          clear hd h1
          generalize Utf8.decode s k = D at *
          obtain ⟨d1, d2⟩ := D
          go_wp2
          go_roundw
          case rel => exact ⟨k + d2, f, by omega, by omega, hit2, hbw2, HE⟩
          case measure => rw [iterPos_of hit2, hpos0]; omega
    · have HE : Hid (Sp.bad s = none) := by
        show _ = _; rw [← HB.out]
        cases f with
        | zero => rfl
        | succ f => simp only [Sp.badFrom]; rw [if_neg hlt]
      have hnx : ∀ ty, (Instr.next (.pointer (some ⟨w.heap.size, 0, none⟩)) true ty).run Tryd.prog wr = _ := fun ty => Lib.run_next_end_at wr w.heap.size s k ty hit hlt
      go_wp2
      exact bodyPost_ret (v := .tuple #[.int .i64 0, .bool false]) (by simp [results, Tryd.results37, go_sem]) rfl ⟨hbw, by rw [unhide HE]⟩
end Go.Proofs.YteflnddphpjahaaDoor
