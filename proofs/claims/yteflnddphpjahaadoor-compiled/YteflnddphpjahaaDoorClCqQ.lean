import Derived.Test.YteflnddphpjahaaDoorClCqO
/-
  The program's combinations.
-/
set_option linter.unusedVariables false
set_option linter.unusedSimpArgs false
set_option maxRecDepth 100000
namespace Go.Proofs.YteflnddphpjahaaDoor
open Go.RowKit

/-- The combinations: their names, what nothing is, their functions. -/
def cmN : List Int := [9223372036854775807, -9223372036854775808, 0]
def cmF : List Nat := [137, 138, 139]
def cmNm (k : Nat) : ByteArray := ⟨⟨Sp.combsL[k]!⟩⟩
def cmFn (k : Nat) : Value := .func (.func (cmF[k]!)) #[] #[]
def cmNt (k : Nat) : Int := cmN[k]!
def cmbV (k : Nat) : Value := .agg #[.string (cmNm k), .int .i64 (cmNt k), cmFn k]
def noCmb : Value := .agg #[.string ⟨#[]⟩, .int .i64 0, .nilFunc]
def FCPost (x : List UInt8) (w : World) (e : Ending) (w' : World) : Prop :=
  Below w.heap.size w w' ∧ ((∃ k, k < 3 ∧ Sp.combsL[k]! = x ∧ e = .returned (.tuple #[cmbV k, .bool true])) ∨ (x ∉ Sp.combsL ∧ e = .returned (.tuple #[noCmb, .bool false])))
def cmbsV : Array Value := #[.string ⟨#[109, 105, 110]⟩, .int .i64 9223372036854775807, .func (.func 137) #[] #[], .string ⟨#[109, 97, 120]⟩, .int .i64 (-9223372036854775808), .func (.func 138) #[] #[], .string ⟨#[115, 117, 109]⟩, .int .i64 0, .func (.func 139) #[] #[]]
theorem cmbs_cells {b : Nat} {w : World} {t : Nat} (h : w.heap[b]? = some (.cells cmbsV t)) : (k : Nat) → k < 3 →
    w.cell? ⟨b, k * 3, none⟩ = some (.string (cmNm k)) ∧ w.cell? ⟨b, k * 3 + 1, none⟩ = some (.int .i64 (cmNt k)) ∧ w.cell? ⟨b, k * 3 + 2, none⟩ = some (cmFn k)
  | 0, _ => ⟨by simp only [World.cell?, h]; rfl, by simp only [World.cell?, h]; rfl, by simp only [World.cell?, h]; rfl⟩
  | 1, _ => ⟨by simp only [World.cell?, h]; rfl, by simp only [World.cell?, h]; rfl, by simp only [World.cell?, h]; rfl⟩
  | 2, _ => ⟨by simp only [World.cell?, h]; rfl, by simp only [World.cell?, h]; rfl, by simp only [World.cell?, h]; rfl⟩
  | n + 3, h => absurd h (by omega)
set_option maxHeartbeats 1000000 in
theorem combs_any (w : World) : Calls Tryd.prog 129 #[] w fun e w' => e = .returned (.slice (some ⟨w.heap.size, 0, none⟩) 3 3) ∧ Below w.heap.size w w' ∧ w'.heap[w.heap.size]? = some (.cells cmbsV 114) := by
  go_enter Tryd.func129, Tryd.ntmps129
  go_wp2
  exact bodyPost_ret (v := .slice (some ⟨w.heap.size, 0, none⟩) 3 3) (by simp [results, Tryd.results129, go_sem]) rfl ⟨rfl, (Below.refl _ _).alloc (Nat.le_refl _) _, Array.getElem?_push_size⟩
set_option maxHeartbeats 2000000 in
theorem findCombination_any (s : ByteArray) (w : World) : Calls Tryd.prog 116 #[.string s] w (FCPost s.data.toList w) := by
  go_enter Tryd.func116, Tryd.ntmps116
  go_wp2_with fail
  refine (combs_any _).mono ?_
  rintro e W1 ⟨rfl, hb1, h2⟩
  have hb2 : Below w.heap.size w W1 := ((Below.refl _ w).alloc (Nat.le_refl _) _).trans (hb1.mono (by simp))
  have h1 : W1.heap[w.heap.size]? = some (.cells #[.string ⟨#[]⟩, .int .i64 0, .nilFunc] 114) := (hb1.block _ (by simp)).trans (heap_alloc_new w _)
  rw [World.size_alloc] at h2
  clear hb1
  go_wp2_with fail
  have hz1 : w.heap.size < W1.heap.size := (Array.getElem?_eq_some_iff.1 h1).1
  have hz2 : w.heap.size + 1 < W1.heap.size := (Array.getElem?_eq_some_iff.1 h2).1
  go_loopw [8] (fun i wr => ∃ k : Nat, k ≤ 3 ∧ i = .int .i64 k ∧ Below W1.heap.size W1 wr ∧ Hid (∀ j, j < k → Sp.combsL[j]! ≠ s.data.toList)) (fun i _ => 3 - (intOf i).toNat)
  case atStart => exact ⟨0, by omega, rfl, Below.refl _ _, fun j hj => absurd hj (by omega)⟩
  case round =>
    obtain ⟨k, hk, rfl, hb, HK⟩ := hrel
    have hbw := hb2.trans (hb.mono (by omega))
    have h3 := (hb.block _ hz1).trans h1
    have h4 := (hb.block _ hz2).trans h2
    by_cases hlt : k < 3
    · obtain ⟨x0, x1, x2⟩ := cmbs_cells h4 k hlt
      have hk0 : (0 : Int) ≤ (k : Int) := Int.natCast_nonneg _
      have hk1 : (k : Int) < (3 : Int) := by omega
      obtain ⟨nm, HN⟩ : ∃ nm, Hid (nm = cmNm k) := ⟨_, rfl⟩
      obtain ⟨nt, HT⟩ : ∃ nt, Hid (nt = cmNt k) := ⟨_, rfl⟩
      obtain ⟨fk, HF⟩ : ∃ fk, Hid (Value.func (.func fk) #[] #[] = cmFn k) := ⟨_, rfl⟩
      rw [← unhide HN] at x0
      rw [← unhide HT] at x1
      rw [← unhide HF] at x2
      have hzr : w.heap.size < wr.heap.size := Nat.lt_of_lt_of_le hz1 hb.size
      have h5 : (wr.alloc (.cells #[.string nm, .int .i64 nt, .func (.func fk) #[] #[]] 114)).heap[w.heap.size]? = _ := (((Below.refl wr.heap.size wr).alloc (Nat.le_refl _) (.cells #[.string nm, .int .i64 nt, .func (.func fk) #[] #[]] 114)).block _ hzr).trans h3
      have hb3 := hbw.alloc (Nat.le_of_lt hzr) (.cells #[.string nm, .int .i64 nt, .func (.func fk) #[] #[]] 114)
      obtain ⟨c0, c1, c2, cf⟩ := blk3 h5
      have f0 := cf 0
      have f1 := cf 1
      have f2 := cf 2
      clear cf h1 h2 h3 h4 h5
      by_cases hq : Sp.combsL[k]! = s.data.toList
      · have HQ := hide hq
        have g : (nm.toList == s.toList) = true := by
          rw [unhide HN, toL s]; exact toList_is hq
        clear hq
        clear hzr
        go_wp2
        refine bodyPost_ret (v := .tuple #[cmbV k, .bool true]) ?_ rfl ⟨((hb3.setCell (Nat.le_refl _) _).setCell (Nat.le_refl _) _).setCell (Nat.le_refl _) _, Or.inl ⟨k, hlt, unhide HQ, rfl⟩⟩
        simp [results, Tryd.results116, go_sem, cmbV, c0, c1, c2, ← unhide HN, ← unhide HT, ← unhide HF]
      · have HQ := hide hq
        have g : (nm.toList == s.toList) = false := by
          rw [unhide HN, toL s]; exact toList_ne hq
        clear hq
        go_wp2
        go_roundw
        case rel => exact ⟨k + 1, by omega, by go_num, hb.alloc hb.size _, fun j hj => if h : j = k then h ▸ unhide HQ else unhide HK j (by omega)⟩
        case measure => simp [intOf]; omega
    · obtain rfl : k = 3 := by omega
      obtain ⟨c0, c1, c2, cf⟩ := blk3 h3
      have f0 := cf 0
      have f1 := cf 1
      have f2 := cf 2
      clear cf h1 h2 h3 h4
      go_wp2
      refine bodyPost_ret (v := .tuple #[noCmb, .bool false]) ?_ rfl ⟨((hbw.setCell (Nat.le_refl _) _).setCell (Nat.le_refl _) _).setCell (Nat.le_refl _) _, Or.inr ⟨?_, rfl⟩⟩
      · simp [results, Tryd.results116, go_sem, noCmb, c0, c1, c2]
      · intro hm
        obtain ⟨j, hj, e⟩ := List.mem_iff_getElem.1 hm
        refine unhide HK j hj ?_
        rw [getElem!_pos Sp.combsL j hj]; exact e
end Go.Proofs.YteflnddphpjahaaDoor
