import Derived.Test.YteflnddphpjahaaDoorProg
import Derived.Test.YteflnddphpjahaaDoorClPlAtoPlI
import Derived.Test.YteflnddphpjahaaDoorClRefA
import Derived.WalkKit
import Derived.Outline
import Derived.Deep.DeepMust
/-
  The walk of strideref's Number.
-/
set_option linter.unusedVariables false
set_option linter.unusedSimpArgs false
set_option maxRecDepth 100000
namespace Go.Proofs.YteflnddphpjahaaDoor
open Go.RowKit

theorem toList_ne {s : ByteArray} {l : List UInt8} (h : ¬ s.data.toList = l) : (s.toList == l) = false := by
  rw [beq_eq_false_iff_ne, ByteArray.toList_eq]; exact h
theorem toList_is {s : ByteArray} {l : List UInt8} (h : s.data.toList = l) : (s.toList == l) = true := by
  rw [beq_iff_eq, ByteArray.toList_eq]; exact h
theorem head_of {s : ByteArray} (h : 0 < s.size) : s.data.toList.head? = some s[0] := by
  cases s with | mk d => cases d with | mk l =>
  cases l with
  | nil => exact absurd h (Nat.lt_irrefl 0)
  | cons a l => rfl
theorem byte_eq {c : UInt8} {n : Nat} (h : c.toNat = n) (hn : n < 256) : c = UInt8.ofNat n := by
  apply UInt8.toNat_inj.1; rw [h]; simp; omega

/-- What Number answers. -/
def numOut (o : Option Int) : Value := .tuple #[.int .i64 (o.getD 0), .bool o.isSome]

set_option maxHeartbeats 1000000 in
theorem number_pos_loop (s : ByteArray) (w : World) (hs : s.size ≤ 4000) (hd : 0 < s.size) (hneg : ((s[0].toNat : Nat) : Int) ≠ 45) (hd0 : ((s[0].toNat : Nat) : Int) ≠ 48)
    (hz : (s.toList == [48]) = false) :
    Calls Tryd.prog 62 #[.string s] w fun e w' => e = .returned (numOut (Sp.dval s.data.toList)) ∧ w' = w := by
  have hd0' : (((s[0].toNat : Nat) : Int) == 48) = false := beq_eq_false_iff_ne.2 hd0
  have hd1 : (((s.size : Nat) : Int) == 0) = false := beq_eq_false_iff_ne.2 (by omega)
  have hneg' : (((s[0].toNat : Nat) : Int) == 45) = false := beq_eq_false_iff_ne.2 hneg
  clear hneg
  go_enter Tryd.func62, Tryd.ntmps62
  go_wp2
  go_loop [5, 6] (fun n i => ∃ (k : Nat) (v : Int), k ≤ s.size ∧ i = .int .i64 k ∧ n = .int .i64 v ∧ Hid (Sp.dval (s.data.toList.take k) = some v)) (fun _ i => s.size - (intOf i).toNat)
  case atStart => exact ⟨0, 0, Nat.zero_le _, rfl, rfl, rfl⟩
  case round =>
    obtain ⟨k, v, hk, rfl, rfl, HV⟩ := hrel
    have hb := Sp.dval_bd HV.out
    by_cases hlt : k < s.size
    · have HS : Hid (Sp.dval (s.data.toList.take (k + 1)) = Sp.dstep (some v) s[k]) := by
        show _ = _; rw [Sp.take_snoc s k hlt, Sp.dval_snoc, HV.out]
      by_cases c1 : ((s[k].toNat : Nat) : Int) < 48
      · have HN : Hid (Sp.dval s.data.toList = none) := Sp.dval_take_none (k := k + 1) (by rw [HS.out]; exact if_pos (Or.inl c1))
        go_wp2
        go_ret2
        exact ⟨by rw [HN.out]; rfl, rfl⟩
      by_cases c2 : 57 < ((s[k].toNat : Nat) : Int)
      · have HN : Hid (Sp.dval s.data.toList = none) := Sp.dval_take_none (k := k + 1) (by rw [HS.out]; exact if_pos (Or.inr (Or.inl c2)))
        go_wp2
        go_ret2
        exact ⟨by rw [HN.out]; rfl, rfl⟩
      by_cases c3 : 1000000000 < 10 * v + (((s[k].toNat : Nat) : Int) - 48)
      · have HN : Hid (Sp.dval s.data.toList = none) := Sp.dval_take_none (k := k + 1) (by rw [HS.out]; exact if_pos (Or.inr (Or.inr c3)))
        go_wp2
        go_ret2
        exact ⟨by rw [HN.out]; rfl, rfl⟩
      · go_wp2
        go_round
        case rel => exact ⟨k + 1, _, by omega, by go_num, rfl, by show _ = _; rw [HS.out]; exact if_neg (by omega)⟩
        case measure => simp [intOf]; omega
    · have HN : Hid (Sp.dval s.data.toList = some v) := by
        show _ = _; rw [← Sp.take_all s k (by omega)]; exact HV.out
      go_wp2
      go_ret2
      exact ⟨by rw [HN.out]; rfl, rfl⟩

set_option maxHeartbeats 1000000 in
theorem number_neg_loop (s d : ByteArray) (w : World) (hs : s.size ≤ 4000) (hx : s.extract 1 s.size = d) (h0 : 0 < s.size) (hm : (((s[0].toNat : Nat) : Int) == 45) = true) (hsz : d.size < s.size) (hd : 0 < d.size) (hd0 : ((d[0].toNat : Nat) : Int) ≠ 48)
    (hz : (s.toList == [48]) = false) :
    Calls Tryd.prog 62 #[.string s] w fun e w' => e = .returned (numOut ((Sp.dval d.data.toList).map (fun n => -n))) ∧ w' = w := by
  have hd0' : (((d[0].toNat : Nat) : Int) == 48) = false := beq_eq_false_iff_ne.2 hd0
  have hd1 : (((d.size : Nat) : Int) == 0) = false := beq_eq_false_iff_ne.2 (by omega)

  go_enter Tryd.func62, Tryd.ntmps62
  go_wp2
  go_loop [5, 6] (fun n i => ∃ (k : Nat) (v : Int), k ≤ d.size ∧ i = .int .i64 k ∧ n = .int .i64 v ∧ Hid (Sp.dval (d.data.toList.take k) = some v)) (fun _ i => d.size - (intOf i).toNat)
  case atStart => exact ⟨0, 0, Nat.zero_le _, rfl, rfl, rfl⟩
  case round =>
    obtain ⟨k, v, hk, rfl, rfl, HV⟩ := hrel
    have hb := Sp.dval_bd HV.out
    by_cases hlt : k < d.size
    · have HS : Hid (Sp.dval (d.data.toList.take (k + 1)) = Sp.dstep (some v) d[k]) := by
        show _ = _; rw [Sp.take_snoc d k hlt, Sp.dval_snoc, HV.out]
      by_cases c1 : ((d[k].toNat : Nat) : Int) < 48
      · have HN : Hid (Sp.dval d.data.toList = none) := Sp.dval_take_none (k := k + 1) (by rw [HS.out]; exact if_pos (Or.inl c1))
        go_wp2
        go_ret2
        exact ⟨by rw [HN.out]; rfl, rfl⟩
      by_cases c2 : 57 < ((d[k].toNat : Nat) : Int)
      · have HN : Hid (Sp.dval d.data.toList = none) := Sp.dval_take_none (k := k + 1) (by rw [HS.out]; exact if_pos (Or.inr (Or.inl c2)))
        go_wp2
        go_ret2
        exact ⟨by rw [HN.out]; rfl, rfl⟩
      by_cases c3 : 1000000000 < 10 * v + (((d[k].toNat : Nat) : Int) - 48)
      · have HN : Hid (Sp.dval d.data.toList = none) := Sp.dval_take_none (k := k + 1) (by rw [HS.out]; exact if_pos (Or.inr (Or.inr c3)))
        go_wp2
        go_ret2
        exact ⟨by rw [HN.out]; rfl, rfl⟩
      · go_wp2
        go_round
        case rel => exact ⟨k + 1, _, by omega, by go_num, rfl, by show _ = _; rw [HS.out]; exact if_neg (by omega)⟩
        case measure => simp [intOf]; omega
    · have HN : Hid (Sp.dval d.data.toList = some v) := by
        show _ = _; rw [← Sp.take_all d k (by omega)]; exact HV.out
      go_wp2
      go_ret2
      exact ⟨by rw [HN.out]; rfl, rfl⟩

theorem number_zero (s : ByteArray) (w : World) (hs : s.size ≤ 4000) (h : s = ⟨#[48]⟩) :
    Calls Tryd.prog 62 #[.string s] w fun e w' => e = .returned (numOut (some 0)) ∧ w' = w := by
  subst h
  go_enter Tryd.func62, Tryd.ntmps62
  go_wp2
  go_ret2
  exact ⟨rfl, rfl⟩
theorem number_empty (w : World) :
    Calls Tryd.prog 62 #[.string ByteArray.empty] w fun e w' => e = .returned (numOut none) ∧ w' = w := by
  have hz : (ByteArray.empty.toList == [48]) = false := toList_ne (by decide)
  go_enter Tryd.func62, Tryd.ntmps62
  go_wp2
  go_ret2
  exact ⟨rfl, rfl⟩
set_option maxHeartbeats 400000 in
theorem number_pos_no (s : ByteArray) (w : World) (hs : s.size ≤ 4000) (hd : 0 < s.size) (h48 : (((s[0].toNat : Nat) : Int) == 48) = true) (hneg : (((s[0].toNat : Nat) : Int) == 45) = false)
    (hz : (s.toList == [48]) = false) :
    Calls Tryd.prog 62 #[.string s] w fun e w' => e = .returned (numOut none) ∧ w' = w := by
  have hd1 : (((s.size : Nat) : Int) == 0) = false := beq_eq_false_iff_ne.2 (by omega)
  go_enter Tryd.func62, Tryd.ntmps62
  go_wp2
  go_ret2
  exact ⟨rfl, rfl⟩
set_option maxHeartbeats 400000 in
theorem number_neg_empty (s d : ByteArray) (w : World) (hs : s.size ≤ 4000) (hx : s.extract 1 s.size = d) (h0 : 0 < s.size) (hm : (((s[0].toNat : Nat) : Int) == 45) = true) (hd : d.size = 0)
    (hz : (s.toList == [48]) = false) :
    Calls Tryd.prog 62 #[.string s] w fun e w' => e = .returned (numOut none) ∧ w' = w := by
  have hd1 : (((d.size : Nat) : Int) == 0) = true := beq_iff_eq.2 (by omega)
  clear hd
  go_enter Tryd.func62, Tryd.ntmps62
  go_wp2
  go_ret2
  exact ⟨rfl, rfl⟩
set_option maxHeartbeats 400000 in
theorem number_neg_no (s d : ByteArray) (w : World) (hs : s.size ≤ 4000) (hx : s.extract 1 s.size = d) (h0 : 0 < s.size) (hm : (((s[0].toNat : Nat) : Int) == 45) = true) (hd : 0 < d.size)
    (h48 : (((d[0].toNat : Nat) : Int) == 48) = true) (hz : (s.toList == [48]) = false) :
    Calls Tryd.prog 62 #[.string s] w fun e w' => e = .returned (numOut none) ∧ w' = w := by
  have hd1 : (((d.size : Nat) : Int) == 0) = false := beq_eq_false_iff_ne.2 (by omega)
  go_enter Tryd.func62, Tryd.ntmps62
  go_wp2
  go_ret2
  exact ⟨rfl, rfl⟩

theorem tail_of {s : ByteArray} : (s.extract 1 s.size).data.toList = s.data.toList.tail := by
  rw [ByteArray.data_extract, Array.toList_extract]
  show (s.data.toList.drop 1).take (s.data.size - 1) = _
  rw [List.take_of_length_le (by simp), List.drop_one]
theorem head_ne {s : ByteArray} (c : UInt8) (h : 0 < s.size) (hd : ((s[0].toNat : Nat) : Int) ≠ (c.toNat : Int)) : s.data.toList.head? ≠ some c := by
  rw [head_of h]; intro e; injection e with e; apply hd; rw [e]
theorem head_is {s : ByteArray} (c : UInt8) (h : 0 < s.size) (hd : ((s[0].toNat : Nat) : Int) = (c.toNat : Int)) : s.data.toList.head? = some c := by
  rw [head_of h]; congr 1; apply UInt8.toNat_inj.1; omega
theorem ne_nil {s : ByteArray} (h : 0 < s.size) : s.data.toList ≠ [] := by
  intro e
  have h1 : s.data.toList.length = 0 := by rw [e]; rfl
  rw [Array.length_toList] at h1
  have h2 : s.data.size = s.size := rfl
  omega
theorem nil_of {s : ByteArray} (h : ¬ 0 < s.size) : s.data.toList = [] := by
  apply List.eq_nil_of_length_eq_zero
  rw [Array.length_toList]
  have h2 : s.data.size = s.size := rfl
  omega

theorem number_any (s : ByteArray) (w : World) (hs : s.size ≤ 4000) :
    Calls Tryd.prog 62 #[.string s] w fun e w' => e = .returned (numOut (Sp.number s.data.toList)) ∧ w' = w := by
  by_cases hz : s.data.toList = [48]
  · have e : s = ⟨#[48]⟩ := by apply ByteArray.ext; apply Array.ext'; exact hz
    have := number_zero s w hs e
    rw [show Sp.number s.data.toList = some 0 from if_pos hz]; exact this
  have hz' := toList_ne hz
  by_cases h0 : 0 < s.size
  · by_cases hm : ((s[0].toNat : Nat) : Int) = 45
    · have e1 : Sp.number s.data.toList = (Sp.digits s.data.toList.tail).map (fun n => -n) := by
        unfold Sp.number; rw [if_neg hz, if_pos (head_is 45 h0 hm)]
      rw [e1, ← tail_of]
      obtain ⟨d, hx⟩ : ∃ d, s.extract 1 s.size = d := ⟨_, rfl⟩
      rw [hx]
      have hsz : d.size < s.size := by rw [← hx]; simp; omega
      by_cases hd : 0 < d.size
      · by_cases h48 : ((d[0].toNat : Nat) : Int) = 48
        · rw [show Sp.digits d.data.toList = none from if_pos (Or.inr (head_is 48 hd h48))]
          exact number_neg_no s d w hs hx h0 (beq_iff_eq.2 hm) hd (beq_iff_eq.2 h48) hz'
        · have hne := ne_nil hd
          rw [show Sp.digits d.data.toList = Sp.dval d.data.toList from if_neg (by rintro (e | e); exact hne e; exact head_ne 48 hd h48 e)]
          exact number_neg_loop s d w hs hx h0 (beq_iff_eq.2 hm) hsz hd h48 hz'
      · have hd0 : d.size = 0 := by omega
        have hnil := nil_of hd
        rw [show Sp.digits d.data.toList = none from if_pos (Or.inl hnil)]
        exact number_neg_empty s d w hs hx h0 (beq_iff_eq.2 hm) hd0 hz'
    · have e1 : Sp.number s.data.toList = Sp.digits s.data.toList := by
        unfold Sp.number; rw [if_neg hz, if_neg (head_ne 45 h0 hm)]
      rw [e1]
      by_cases h48 : ((s[0].toNat : Nat) : Int) = 48
      · rw [show Sp.digits s.data.toList = none from if_pos (Or.inr (head_is 48 h0 h48))]
        exact number_pos_no s w hs h0 (beq_iff_eq.2 h48) (beq_eq_false_iff_ne.2 hm) hz'
      · have hne := ne_nil h0
        rw [show Sp.digits s.data.toList = Sp.dval s.data.toList from if_neg (by rintro (e | e); exact hne e; exact head_ne 48 h0 h48 e)]
        exact number_pos_loop s w hs h0 hm h48 hz'
  · have hnil := nil_of h0
    have e : s = ByteArray.empty := by apply ByteArray.ext; apply Array.ext'; exact hnil
    subst e
    exact number_empty w
end Go.Proofs.YteflnddphpjahaaDoor
/-
  The walks of strideref's broken and name.
-/
set_option linter.unusedVariables false
set_option linter.unusedSimpArgs false
set_option maxRecDepth 100000
namespace Go.Proofs.YteflnddphpjahaaDoor
open Go.RowKit

set_option maxHeartbeats 1000000 in
theorem broken_any (s : ByteArray) (w : World) (hs : s.size ≤ 4000) :
    Calls Tryd.prog 43 #[.string s] w fun e w' => e = .returned (.int .i64 (Sp.badInt (Sp.bad s))) ∧ w' = w := by
  go_enter Tryd.func43, Tryd.ntmps43
  go_wp2
  go_loop [3] (fun i => ∃ (k f : Nat), k ≤ s.size ∧ s.size - k ≤ f ∧ i = .int .i64 k ∧ Hid (Sp.badFrom s f k = Sp.bad s)) (fun i => s.size - (intOf i).toNat)
  case atStart => exact ⟨0, s.size, Nat.zero_le _, by omega, rfl, rfl⟩
  case round =>
    obtain ⟨k, f, hk, hf, rfl, HB⟩ := hrel
    by_cases hlt : k < s.size
    · obtain ⟨f, rfl⟩ : ∃ g, f = g + 1 := ⟨f - 1, by omega⟩
      have hsz := Sp.dec_size hlt
      by_cases hd : Utf8.decode s k = (65533, 1)
      · have HE : Hid (Sp.bad s = some k) := by
          show _ = _; rw [← HB.out]; simp only [Sp.badFrom]; rw [if_pos hlt, if_pos hd]
        have HR : Hid (Sp.refRune s k = (0, 0)) := Sp.ref_of_bad hd
        clear hd
        go_wp2_with (go_at_call 60; refine (rune_any s k _ rfl _ hs hlt).mono ?_; rintro e w' ⟨rfl, rfl⟩; rw [HR.out])
        go_ret
        exact ⟨by rw [HE.out]; rfl, rfl⟩
      · have HE : Hid (Sp.badFrom s f (k + (Utf8.decode s k).2) = Sp.bad s) := by
          show _ = _; rw [← HB.out]; simp only [Sp.badFrom]; rw [if_pos hlt, if_neg hd]
        have HR : Hid (Sp.refRune s k = (((Utf8.decode s k).1 : Int), ((Utf8.decode s k).2 : Int))) := Sp.ref_of_good hd
        clear hd
        generalize Utf8.decode s k = D at hsz HE HR
        have hne : (((D.2 : Nat) : Int) == 0) = false := beq_eq_false_iff_ne.2 (by omega)
        go_wp2_with (go_at_call 60; refine (rune_any s k _ rfl _ hs hlt).mono ?_; rintro e w' ⟨rfl, rfl⟩; rw [HR.out])
        go_round
        case rel => exact ⟨k + D.2, f, by omega, by omega, by go_num, HE⟩
        case measure => simp [intOf]; omega
    · have HE : Hid (Sp.bad s = none) := by
        show _ = _; rw [← HB.out]
        cases f with
        | zero => rfl
        | succ f => simp only [Sp.badFrom]; rw [if_neg hlt]
      go_wp2
      go_ret
      exact ⟨by rw [HE.out]; rfl, rfl⟩

/-- What name answers. -/
def nameOut (s : ByteArray) (i : Nat) : Int × Int :=
  if i < s.size ∧ Sp.bt s i ≠ 32 ∧ Sp.bt s i ≠ 62 then ((Sp.refRune s i).1, (i : Int) + (Sp.refRune s i).2) else (0, -1)

theorem ref_bd (s : ByteArray) (i : Nat) (hi : i < s.size) : 0 ≤ (Sp.refRune s i).2 ∧ (Sp.refRune s i).2 ≤ 4 := by
  unfold Sp.refRune; have := Sp.dec_size hi
  split <;> simp only <;> omega

set_option maxHeartbeats 1000000 in
theorem name_any (s : ByteArray) (i : Nat) (n : Int) (hn : n = (i : Int)) (w : World) (hs : s.size ≤ 4000) (hi : i ≤ 5000) :
    Calls Tryd.prog 61 #[.string s, .int .i64 n] w fun e w' => e = .returned (.tuple #[.int .i64 (nameOut s i).1, .int .i64 (nameOut s i).2]) ∧ w' = w := by
  subst hn
  by_cases hlt : i < s.size
  · have eb := Sp.bt_of s i hlt
    have hr := ref_bd s i hlt
    by_cases h1 : Sp.bt s i = 32
    · rw [show nameOut s i = (0, -1) from if_neg (by omega)]
      have g1 : (((Sp.bt s i : Nat) : Int) == 32) = true := beq_iff_eq.2 (by omega)
      go_enter Tryd.func61, Tryd.ntmps61
      go_wp2
      go_ret2
      exact ⟨rfl, rfl⟩
    · have g1 : (((Sp.bt s i : Nat) : Int) == 32) = false := beq_eq_false_iff_ne.2 (by omega)
      by_cases h2 : Sp.bt s i = 62
      · rw [show nameOut s i = (0, -1) from if_neg (by omega)]
        have g2 : (((Sp.bt s i : Nat) : Int) == 62) = true := beq_iff_eq.2 (by omega)
        go_enter Tryd.func61, Tryd.ntmps61
        go_wp2
        go_ret2
        exact ⟨rfl, rfl⟩
      · rw [show nameOut s i = ((Sp.refRune s i).1, (i : Int) + (Sp.refRune s i).2) from if_pos ⟨hlt, h1, h2⟩]
        have g2 : (((Sp.bt s i : Nat) : Int) == 62) = false := beq_eq_false_iff_ne.2 (by omega)
        generalize hR : Sp.refRune s i = R at hr ⊢
        have HR := hide hR
        clear hR h1 h2
        go_enter Tryd.func61, Tryd.ntmps61
        go_wp2_with (go_at_call 60; refine (rune_any s i _ rfl _ hs hlt).mono ?_; rintro e w' ⟨rfl, rfl⟩; rw [unhide HR])
        go_ret2
        exact ⟨rfl, rfl⟩
  · rw [show nameOut s i = (0, -1) from if_neg (by omega)]
    have h' : s.size ≤ i := by omega
    go_enter Tryd.func61, Tryd.ntmps61
    go_wp2
    go_ret2
    exact ⟨rfl, rfl⟩
end Go.Proofs.YteflnddphpjahaaDoor
/-
  The walk of strideref's Split.
-/
set_option linter.unusedVariables false
set_option linter.unusedSimpArgs false
set_option maxRecDepth 100000
namespace Go.Proofs.YteflnddphpjahaaDoor
open Go.RowKit

theorem Tryd.info_string : (Tryd.prog.info? 9).map (fun i => (i.zero, i.size, i.bytes)) = some (some (.string ByteArray.empty), 1, 16) := by kernel_rfl

/-- What one append of one cell leaves. -/
theorem split_app {B e n : Nat} {xs : List Value} {x : Value} {w wr w1 : World} {v v' : Value} {o : Obj} (hB : B ≤ wr.heap.size)
    (hown : wr.ownsRow B e 1 v xs.length xs) (hnx : Below B w wr) (hown' : w1.ownsRow B e 1 v' (n + 1) (xs ++ [x])) (hn : n = xs.length) (hgrow : (wr.alloc o).grownBy w1 v.ownBlock) :
    w1.ownsRow B e 1 v' (xs ++ [x]).length (xs ++ [x]) ∧ Below B w w1 :=
  ⟨by subst hn; simpa using hown', (hnx.alloc hB o).grown hgrow (by simp; omega) (fun j hj => by have := (hown.lt j hj).1; omega)⟩

set_option maxHeartbeats 1000000 in
theorem split_any (s : ByteArray) (c : Nat) (n : Int) (hn : n = (c : Int)) (hc : c < 256) (w : World) (hs : s.size ≤ 4000) :
    Calls Tryd.prog 31 #[.string s, .int .u8 n] w fun e w' => ∃ v, e = .returned v ∧ w'.ownsRow w.heap.size 9 1 v (Sp.split s c).length ((Sp.split s c).map Value.string) ∧ Below w.heap.size w w' := by
  subst hn
  obtain ⟨i0, hi, hz0, hz1, hz2⟩ := info_parts Tryd.info_string
  generalize hB : w.heap.size = B
  have HB := hide hB
  clear hB
  go_enter Tryd.func31, Tryd.ntmps31
  go_wp2
  go_loopw [5, 6, 7] (fun v f i wr => ∃ k : Nat, k ≤ s.size + 1 ∧ i = .int .i64 k ∧ f = .int .i64 (Sp.cuts s c k).1 ∧ wr.ownsRow B 9 1 v ((Sp.cuts s c k).2.map Value.string).length ((Sp.cuts s c k).2.map Value.string) ∧ Below B w wr)
    (fun _ _ i _ => s.size + 1 - (intOf i).toNat)
  case atStart => exact ⟨0, Nat.zero_le _, rfl, rfl, World.ownsRow_nil _ _ _ _, Below.refl _ _⟩
  case round =>
    obtain ⟨k, hk, rfl, rfl, hown, hnx⟩ := hrel
    have hcb := Sp.cuts_bd s c k
    by_cases hend : k = s.size + 1
    · subst hend
      go_wp2
      go_ret
      exact ⟨_, rfl, by unfold Sp.split; simpa using hown, hnx⟩
    by_cases hlast : k = s.size
    · subst hlast
      have e1 : (((s.size : Nat) : Int) == ((s.size : Nat) : Int)) = true := beq_iff_eq.2 rfl
      go_wp2_with (first
        | (at_builtin; go_must (refine wpList_append_own _ rfl _ _ 60 rfl B 9 i0 (.string ByteArray.empty) 1 16 Tryd.underlying60 hi hz0 hz1 hz2 rfl (by decide) _ _ _ rfl (hown.alloc _) ⟨wr.heap.size, 0, none⟩ 1 1 [.string (s.extract (Sp.cuts s c s.size).1 s.size)] rfl rfl ?c1 ?c2 ?c3 ?c4 ?c5 ?_))
        | go_in)
      case c1 =>
        intro j u hj
        match j, hj with
        | 0, hj => simp at hj; subst hj; simp [Addr.add]
      case c2 => intro u hu; simp at hu; subst hu; rfl
      case c3 => simp; unfold maxLen; omega
      case c4 => simp; omega
      case c5 => have := hnx.size; have := HB.out; simp; omega
      intro v' w1 hown' hgrow _
      have R := split_app (by have := hnx.size; have := HB.out; omega) hown hnx hown' (by simp) hgrow
      clear hown' hgrow hown
      go_wp2
      go_roundw
      case rel => exact ⟨s.size + 1, by omega, by go_num, by rw [Sp.cuts_yes (Or.inl rfl)]; go_num, by rw [Sp.cuts_yes (Or.inl rfl)]; simpa using R.1, R.2⟩
      case measure => simp [intOf] <;> omega

    have hlt : k < s.size := by omega
    have e1 : (((k : Nat) : Int) == ((s.size : Nat) : Int)) = false := beq_eq_false_iff_ne.2 (by omega)
    have eb := Sp.bt_of s k hlt
    by_cases hb : Sp.bt s k = c
    · have e2 : (((Sp.bt s k : Nat) : Int) == (c : Int)) = true := beq_iff_eq.2 (by omega)
      have HC := hide hb
      clear hb
      go_wp2_with (first
        | (at_builtin; refine wpList_append_own _ rfl _ _ 60 rfl B 9 i0 (.string ByteArray.empty) 1 16 Tryd.underlying60 hi hz0 hz1 hz2 rfl (by decide) _ _ _ rfl (hown.alloc _) ⟨wr.heap.size, 0, none⟩ 1 1 [.string (s.extract (Sp.cuts s c k).1 k)] rfl rfl ?c1 ?c2 ?c3 ?c4 ?c5 ?_)
        | go_in)
      case c1 =>
        intro j u hj
        match j, hj with
        | 0, hj => simp at hj; subst hj; simp [Addr.add]
      case c2 => intro u hu; simp at hu; subst hu; rfl
      case c3 => simp; unfold maxLen; omega
      case c4 => simp; omega
      case c5 => have := hnx.size; have := HB.out; simp; omega
      intro v' w1 hown' hgrow _
      have R := split_app (by have := hnx.size; have := HB.out; omega) hown hnx hown' (by simp) hgrow
      clear hown' hgrow hown
      go_wp2
      go_roundw
      case rel => exact ⟨k + 1, by omega, by go_num, by rw [Sp.cuts_yes (Or.inr (unhide HC))]; go_num, by rw [Sp.cuts_yes (Or.inr (unhide HC))]; simpa using R.1, R.2⟩
      case measure => simp [intOf] <;> omega

    · have e2 : (((Sp.bt s k : Nat) : Int) == (c : Int)) = false := beq_eq_false_iff_ne.2 (by omega)
      have HC : Hid (¬ (k = s.size ∨ Sp.bt s k = c)) := by rintro (h | h); exact hlast h; exact hb h
      clear hb
      go_wp2
      go_roundw
      case rel => exact ⟨k + 1, by omega, by go_num, by rw [Sp.cuts_no HC.out], by rw [Sp.cuts_no HC.out]; exact hown, hnx⟩
      case measure => simp [intOf] <;> omega
end Go.Proofs.YteflnddphpjahaaDoor
