import Derived.Test.YteflnddphpjahaaClSeE
import Derived.Lib.ConvBytes
/-
  The law Turned.
-/
set_option linter.unusedVariables false
set_option linter.unusedSimpArgs false
set_option maxRecDepth 100000
namespace Go.Proofs.Yteflnddphpjahaa
open Go.RowKit

theorem stmod_bd {a : Int} {n : Nat} (ha : 0 ≤ a) (hn : 0 < n) : ∃ r : Nat, a.tmod (n : Int) = (r : Int) ∧ r < n := by
  have h1 := Int.tmod_nonneg (n : Int) ha
  have h2 := Int.tmod_lt_of_pos a (show (0 : Int) < (n : Int) by omega)
  exact ⟨(a.tmod (n : Int)).toNat, by omega, by omega⟩
set_option maxHeartbeats 400000 in
theorem spick_any (c : Int) (n : Nat) (nn : Int) (w : World) (hnn : nn = (n : Int)) (h1 : -9223372036854775808 ≤ c) (h2 : c ≤ 9223372036854775807) (hn : 0 < n) (hn2 : n ≤ 9223372036854775807) :
    Calls Try.prog 12 #[.int .i64 c, .int .i64 nn] w fun e w' => (∃ r : Nat, e = .returned (.int .i64 r) ∧ r < n) ∧ w' = w := by
  subst hnn
  by_cases hc : c < 0
  · obtain ⟨r, hr, hlt⟩ := stmod_bd (a := -(c + 1)) (n := n) (by omega) hn
    have HR := hide hr
    clear hr
    go_enter Try.func12, Try.ntmps12
    go_wp2
    go_ret
    exact ⟨⟨r, by have h := unhide HR; rw [Int.neg_tmod] at h; rw [h]; rfl, hlt⟩, rfl⟩
  · obtain ⟨r, hr, hlt⟩ := stmod_bd (a := c) (n := n) (by omega) hn
    have HR := hide hr
    clear hr
    go_enter Try.func12, Try.ntmps12
    go_wp2
    go_ret
    exact ⟨⟨r, by have h := unhide HR; rw [Int.tmod_eq_emod_of_nonneg hc] at h; rw [h]; rfl, hlt⟩, rfl⟩

/-- What a row of bytes reads as. -/
def RowIs (w : World) (g : Nat) (s : ByteArray) : Prop := ∀ j, j < s.size → w.cell? ⟨g, j, none⟩ = some (.int .u8 (Sp.bt s j))
theorem toBytes (w : World) (s : ByteArray) : ∃ (w' : World) (cap : Nat), (convert 9 27 (.string s)).run Try.prog w = .ok (.slice (some ⟨w.heap.size, 0, none⟩) s.size cap) w' ∧
    RowIs w' w.heap.size s ∧ Below w.heap.size w w' ∧ w'.heap.size = w.heap.size + 1 ∧ (∀ j, j < s.size → w'.frozen? ⟨w.heap.size, j, none⟩ = false) := by
  refine ⟨_, _, Lib.run_convert_string_bytes (P := Try.prog) w 9 27 5 s Try.underlying9 Try.underlying27 Try.underlying5, ?_, ?_, Lib.bytesWorld_size _ _ _, ?_⟩
  · intro j hj
    rw [Lib.bytesWorld_cell w 5 s j hj]
    rw [← Sp.bt_of s j hj]
    have e : s.data.toList.getD j 0 = s[j] := by
      rw [List.getD_eq_getElem?_getD, List.getElem?_eq_getElem (by rw [Array.length_toList]; exact hj)]
      rfl
    rw [e]
  · exact ⟨rfl, rfl, rfl, by rw [Lib.bytesWorld_size]; omega, fun k hk => Lib.bytesWorld_at_old w _ s k hk⟩
  · intro j hj
    have h := Lib.bytesWorld_at_new w 5 s
    have hc : s.size ≤ (Lib.bytesCells w 5 s).size := by
      simp only [Lib.bytesCells, Array.size_append, Array.size_map]
      have : s.data.size = s.size := rfl
      omega
    unfold World.frozen?
    rw [h]
    simp
    omega
theorem addr_add (g i : Nat) : (⟨g, 0, none⟩ : Addr).add i = ⟨g, i, none⟩ := by
  by_cases h0 : i = 0
  · subst h0; simp [Addr.add]
  · simp [Addr.add, h0]
theorem toStr (w : World) (g n cap : Nat) (t : ByteArray) (hn : t.size = n) (h : RowIs w g t) : (convert 27 9 (.slice (some ⟨g, 0, none⟩) n cap)).run Try.prog w = .ok (.string t) w := by
  subst hn
  have h1 := run_convert_bytes_arg (P := Try.prog) w 27 5 Try.underlying27 Try.underlying5 g 0 t.size cap (t.data.toList.map (fun b => (b.toNat : Int))) (by rw [List.length_map, Array.length_toList]; rfl) (fun i hi => by
    rw [Nat.zero_add, h i hi, ← Sp.bt_of t i hi, List.getD_eq_getElem?_getD, List.getElem?_map, List.getElem?_eq_getElem (by rw [Array.length_toList]; exact hi)]
    rfl) 9 Try.underlying9
  rw [h1]
  have e : strOfNums (t.data.toList.map (fun b => (b.toNat : Int))) = t := by
    apply ByteArray.ext
    apply Array.toList_inj.1
    rw [strOfNums_data, List.map_map]
    rw [show ((fun n : Int => UInt8.ofNat n.toNat) ∘ fun b : UInt8 => (b.toNat : Int)) = id from by funext b; simp]
    simp
  rw [e]

theorem turn (S : ByteArray) (i y : Nat) (hi : i < S.size) (hy : y < 256) : ∃ T : ByteArray, T.size = S.size ∧ Sp.bt T i = y ∧ ∀ k, k < S.size → k ≠ i → Sp.bt T k = Sp.bt S k := by
  have hi' : i < S.data.size := hi
  refine ⟨⟨S.data.set i (UInt8.ofNat y) hi'⟩, ?_, ?_, ?_⟩
  · show (S.data.set i (UInt8.ofNat y) hi').size = S.data.size
    simp
  · rw [← Sp.bt_of _ i (by show i < (S.data.set i (UInt8.ofNat y) hi').size; simpa using hi')]
    show ((S.data.set i (UInt8.ofNat y) hi')[i]'(by simpa using hi')).toNat = y
    rw [Array.getElem_set_self]
    simp; omega
  · intro k hk hki
    have hk' : k < S.data.size := hk
    rw [← Sp.bt_of _ k (by show k < (S.data.set i (UInt8.ofNat y) hi').size; simpa using hk'), ← Sp.bt_of S k hk]
    show ((S.data.set i (UInt8.ofNat y) hi')[k]'(by simpa using hk')).toNat = _
    rw [Array.getElem_set_ne _ _ (by omega)]
    rfl
theorem xor_byte (X r : Nat) (hX : X < 256) (hr : r < 255) : bits .xor .u8 (X : Int) (IntKind.u8.wrap (IntKind.i64.wrap ((r : Int) + 1))) = ((X ^^^ (r + 1) : Nat) : Int) := by
  have e1 : IntKind.i64.wrap ((r : Int) + 1) = (r : Int) + 1 := by simp only [IntKind.wrap, IntKind.bits, IntKind.signed]; simp; omega
  have e2 : IntKind.u8.wrap ((r : Int) + 1) = ((r + 1 : Nat) : Int) := by rw [IntKind.wrap_u8']; omega
  rw [e1, e2]
  exact u8_xor_nat X (r + 1) hX (by omega)
theorem xor_ne (X r : Nat) : X ^^^ (r + 1) ≠ X := by
  intro h
  have h1 : X ^^^ (r + 1) = X ^^^ 0 := by rw [Nat.xor_zero]; exact h
  have := Sp.xor_cancel' h1
  omega
/-- The row behind the store. -/
theorem row_set {w : World} {g i y : Nat} {S T : ByteArray} (h : RowIs w g S) (hi : i < S.size) (hs : T.size = S.size) (ht : Sp.bt T i = y) (hk : ∀ k, k < S.size → k ≠ i → Sp.bt T k = Sp.bt S k) :
    RowIs (w.setCell ⟨g, i, none⟩ (.int .u8 (y : Int))).drew g T := by
  intro j hj
  rw [hs] at hj
  show (w.setCell ⟨g, i, none⟩ (.int .u8 (y : Int))).cell? ⟨g, j, none⟩ = _
  by_cases hji : j = i
  · subst hji
    rw [ht]
    exact World.cell?_setCell_same _ _ _ (h j hj)
  · rw [hk j hj hji, ← h j hj]
    exact World.cell?_setCell_other _ _ _ _ (by intro e; simp only [Addr.mk.injEq] at e; omega)

set_option maxHeartbeats 2000000 in
theorem turned_any (p : ByteArray) (at' bs : Int) (w : World) (hp : p.size ≤ 140737488351232) (a1 : -9223372036854775808 ≤ at') (a2 : at' ≤ 9223372036854775807) (b1 : -9223372036854775808 ≤ bs) (b2 : bs ≤ 9223372036854775807) :
    Calls Try.prog 5 #[.string p, .int .i64 at', .int .i64 bs] w fun e w' => e = .returned (.bool true) ∧ Below w.heap.size w w' := by
  have hz := Sp.sealB_size p
  go_enter Try.func5, Try.ntmps5
  go_wp2_with fail
  refine (seal_any p _ (by omega)).mono ?_
  rintro e w1 ⟨rfl, hb1⟩
  go_wp2_with fail
  refine (open_any (Sp.sealB p) _ (by omega)).mono ?_
  rintro e w2 ⟨rfl, hb2⟩
  have hb2 := hb1.trans (hb2.mono hb1.size)
  rw [Sp.seal_open, Sp.seal_ok]
  generalize hS : Sp.sealB p = S at *
  have HS := hide hS
  have HZ := hide hz
  have z1 : S.size ≤ p.size + 8 := by omega
  have z2 : p.size + 8 ≤ S.size := by omega
  have t1 : (p.toList == p.toList) = true := ba_eq rfl
  have t2 : ((S.size : Int) != (p.size : Int) + 8) = false := by simp; omega
  clear hb1 hS hz
  go_wp2_with fail
  refine (spick_any at' S.size _ w2 rfl a1 a2 (by omega) (by omega)).mono ?_
  rintro e w3 ⟨⟨i, rfl, hi⟩, rfl⟩
  obtain ⟨w4, cap, hcv, hrow, hb4, hz4, hfr⟩ := toBytes w3 S
  have hfi := hfr i hi
  have hii := hrow i hi
  have hp255 := fun W => spick_any bs 255 255 W rfl b1 b2 (by omega) (by omega)
  have hb4 := hide (hb2.trans (hb4.mono hb2.size))
  have hw3 : w3.heap.size < w4.heap.size := by omega
  have HR := hide hrow
  have hbt := Sp.bt_lt S i
  clear hrow hz4 hfr
  generalize hX : Sp.bt S i = X at hii hbt
  go_wp2_with fail
  go_region_with (go_at_call 12; refine (hp255 _).mono ?_; rintro e w5 ⟨⟨r, rfl, hr⟩, hw5⟩; obtain rfl := hw5.symm)
  all_goals (
    rw [xor_byte X r hbt hr]
    obtain ⟨T, hT1, hT2, hT3⟩ := turn S i (X ^^^ (r + 1)) hi (Nat.xor_lt_two_pow (n := 8) (by omega) (by omega))
    have hrow := row_set (unhide HR) hi hT1 hT2 hT3
    have hbW : Below w.heap.size w (w4.setCell ⟨w3.heap.size, i, none⟩ (.int .u8 ((X ^^^ (r + 1) : Nat) : Int))).drew := ((unhide hb4).setCell (p := ⟨w3.heap.size, i, none⟩) hb2.size _).drew
    have hno : Sp.okB T = false := Sp.turned_no p T i (by have := unhide HZ; omega) (by omega) (by rw [unhide HS, hT2, hX]; exact xor_ne X r) (fun k hk hki => by rw [unhide HS]; exact hT3 k (by omega) hki)
    have hcv2 := toStr _ w3.heap.size S.size cap T hT1 hrow
    have hsh : Sp.okB (S.extract 0 (S.size - 1)) = false := by
      have h := Sp.short_no p
      rw [unhide HS] at h
      have e : S.size - 1 = p.size + 7 := by omega
      rw [e]; exact h
    have hz2 : (S.extract 0 (S.size - 1)).size ≤ 140737488355328 := by rw [ByteArray.size_extract]; omega
    have hoT := fun W => open_any T W (by omega)
    have hoS := fun W => open_any (S.extract 0 (S.size - 1)) W hz2
    rw [Sp.openB_f hno, hno] at hoT
    rw [Sp.openB_f hsh, hsh] at hoS
    generalize hW : (w4.setCell ⟨w3.heap.size, i, none⟩ (.int .u8 ((X ^^^ (r + 1) : Nat) : Int))).drew = W at hrow hbW hcv2 ⊢
    clear hW hrow hsh hno hz2 hT1 hT2 hT3 HR hp255 hcv hii hfi hX
    go_wp2_with fail
    refine (hoT _).mono ?_
    rintro e w6 ⟨rfl, hb6⟩
    have hb6 := hbW.trans (hb6.mono hbW.size)
    clear hcv2 hbW hoT
    go_wp2_with fail
    refine (hoS _).mono ?_
    rintro e w7 ⟨rfl, hb7⟩
    have hb7 := hide (hb6.trans (hb7.mono hb6.size))
    clear hb6 hoS
    go_wp2
    go_ret
    exact ⟨rfl, unhide hb7⟩)
end Go.Proofs.Yteflnddphpjahaa
