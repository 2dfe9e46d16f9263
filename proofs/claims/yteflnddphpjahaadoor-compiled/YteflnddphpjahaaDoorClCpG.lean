import Derived.Test.YteflnddphpjahaaDoorClCpDtoCpF
/-
  strideref.height.
-/
set_option linter.unusedVariables false
set_option linter.unusedSimpArgs false
set_option maxRecDepth 100000
namespace Go.Proofs.YteflnddphpjahaaDoor
open Go.RowKit

namespace Sp
/-- The height of the stack behind the words from place a up to b, with h ahead of them (the first number: how many words there are from a on). -/
def hgt (L : List (List UInt8)) : Nat → Nat → Nat → Nat → Option Nat
  | 0, a, b, h => some h
  | f + 1, a, b, h =>
    if b ≤ a then some h else
    match tk true (L.getD a []) with
    | none => none
    | some (n, m) =>
      if h < n ∨ 16 < h - n + m then none
      else if L.getD a [] = [91] then
        match clo (L.drop a) a 0 with
        | none => none
        | some e => if hgt L f (a + 1) e (h - n + m) = some (h - n + m) then hgt L (f - (e - a)) (e + 1) b (h - n + m) else none
      else hgt L f (a + 1) b (h - n + m)
theorem clo_bd : ∀ (R : List (List UInt8)) (k : Nat) (d : Int) (e : Nat), clo R k d = some e → k ≤ e ∧ e < k + R.length := by
  intro R
  induction R with
  | nil => intro k d e h; cases h
  | cons x r ih =>
    intro k d e h
    simp only [clo] at h
    split at h
    · injection h with h; simp; omega
    · have := ih _ _ _ h; simp; omega
theorem tk_bd {wt : Bool} {x : List UInt8} {n m : Nat} (h : tk wt x = some (n, m)) : n ≤ 3 ∧ m ≤ 3 := by
  unfold tk at h
  repeat' (split at h)
  all_goals (first | (injection h with h; injection h with h1 h2; omega) | cases h)
def hI : Option Nat → Int
  | some h => (h : Int)
  | none => -1
end Sp

/-- Code as it stands behind the look at its form. -/
structure Coded (X : List ByteArray) : Prop where
  wds : Wds X
  len : X.length ≤ 4000
  all : ∀ k, k < X.length → ∃ n m, Sp.tk true ((lst X).getD k []) = some (n, m)
  shut : ∀ k, k < X.length → (lst X).getD k [] = [91] → ∃ e, Sp.clo ((lst X).drop k) k 0 = some e ∧ k < e ∧ e < X.length

set_option maxHeartbeats 4000000 in
theorem height_any (X : List ByteArray) (hX : Coded X) : ∀ (N : Nat) (p : Option Addr) (cap a b h : Nat) (w : World), X.length - a ≤ N → SAt w p X → a ≤ X.length → b ≤ X.length → h ≤ 16 →
    Calls Tryd.prog 35 #[.slice p X.length cap, .int .i64 a, .int .i64 b, .int .i64 h] w fun e w' => e = .returned (.int .i64 (Sp.hI (Sp.hgt (lst X) (X.length - a) a b h))) ∧ w' = w := by
  intro N
  induction N with
  | zero =>
    intro p cap a b h w hN hS ha hb hh
    have hab : b ≤ a := by omega
    have HE : Hid (Sp.hgt (lst X) (X.length - a) a b h = some h) := by show _ = _; rw [show X.length - a = 0 by omega]; unfold Sp.hgt; rfl
    have hlen := hX.len
    have hz : ¬ (a : Int) < (b : Int) := by omega
    go_enter Tryd.func35, Tryd.ntmps35
    go_wp2
    refine wp_loop_rounds 1 ?_
    rw [rounds_succ]
    go_wp2
    go_ret
    exact ⟨by rw [unhide HE]; rfl, rfl⟩
  | succ N ih =>
    intro p cap a b h w hN hS ha hb hh
    have hlen := hX.len
    have HIH := hide ih
    have HXX := hide hX
    clear ih hX
    obtain ⟨o, HO⟩ : ∃ o, Hid (Sp.hgt (lst X) (X.length - a) a b h = o) := ⟨_, rfl⟩
    rw [unhide HO]
    go_enter Tryd.func35, Tryd.ntmps35
    go_wp2
    go_loopw [3, 9] (fun u v wr => ∃ (i q : Nat), u = .int .i64 q ∧ v = .int .i64 i ∧ a ≤ i ∧ i ≤ X.length ∧ q ≤ 16 ∧ wr = w ∧ Hid (Sp.hgt (lst X) (X.length - i) i b q = o)) (fun _ v _ => X.length - (intOf v).toNat)
    case atStart => exact ⟨a, h, rfl, rfl, Nat.le_refl _, ha, hh, rfl, HO⟩
    case round =>
      obtain ⟨i, q, rfl, rfl, hai, hil, hq, hw, HC⟩ := hrel
      obtain rfl := hw.symm
      clear hw
      by_cases hlt : i < b
      · have hltz : (i : Int) < (b : Int) := by omega
        have hix : i < X.length := by omega
        obtain ⟨g, off, rfl, hg1, hg2⟩ := hS i hix
        have hwd := (unhide HXX).wds X[i] (List.getElem_mem hix)
        obtain ⟨x, hx⟩ : ∃ x, X[i] = x := ⟨_, rfl⟩
        rw [hx] at hg2 hwd
        have HX : Hid ((lst X).getD i [] = x.data.toList) := by
          show _ = _
          rw [List.getD_eq_getElem?_getD, List.getElem?_eq_getElem (by rw [lst_len]; exact hix), lst_get hix, hx]; rfl
        clear hx
        obtain ⟨n, m, htk⟩ := (unhide HXX).all i hix
        have hnm := Sp.tk_bd htk
        have HTK := hide htk
        clear htk
        have HTO : Hid (tkOut (Sp.tk true x.data.toList) = .tuple #[.int .i64 (n : Int), .int .i64 (m : Int), .bool true]) := by
          show _ = _
          rw [← unhide HX, unhide HTK]; rfl
        have HSTEP : Hid (Sp.hgt (lst X) (X.length - i) i b q = if q < n ∨ 16 < q - n + m then none else if (lst X).getD i [] = [91] then (match Sp.clo ((lst X).drop i) i 0 with | none => none | some e => if Sp.hgt (lst X) (X.length - (i + 1)) (i + 1) e (q - n + m) = some (q - n + m) then Sp.hgt (lst X) (X.length - (e + 1)) (e + 1) b (q - n + m) else none) else Sp.hgt (lst X) (X.length - (i + 1)) (i + 1) b (q - n + m)) := by
          show _ = _
          rw [show X.length - i = (X.length - (i + 1)) + 1 by omega]
          conv => lhs; unfold Sp.hgt
          rw [if_neg (by omega), unhide HTK]
          simp only
          by_cases c1 : q < n ∨ 16 < q - n + m
          · rw [if_pos c1, if_pos c1]
          · rw [if_neg c1, if_neg c1]
            by_cases c2 : (lst X).getD i [] = [91]
            · rw [if_pos c2, if_pos c2]
              cases hc : Sp.clo ((lst X).drop i) i 0 with
              | none => rfl
              | some e =>
                have := Sp.clo_bd _ _ _ _ hc
                simp only
                rw [show X.length - (i + 1) - (e - i) = X.length - (e + 1) by omega]
            · rw [if_neg c2, if_neg c2]
        go_upto_region 5 with (go_at_call 49; refine (takes_any x true _ hwd.2 hwd.1).mono ?_; rintro e w1 ⟨rfl, hw1⟩; obtain rfl := hw1.symm; rw [unhide HTO])
        by_cases c1 : q < n
        · have c1z : (q : Int) < (n : Int) := by omega
          have HE : Hid (o = none) := by show _ = _; rw [← unhide HC, unhide HSTEP, if_pos (Or.inl c1)]
          go_wp2
          go_ret
          exact ⟨by rw [unhide HE]; rfl, rfl⟩
        · have c1z : ¬ (q : Int) < (n : Int) := by omega
          by_cases c2 : 16 < q - n + m
          · have c2z : (16 : Int) < (q : Int) - (n : Int) + (m : Int) := by omega
            have HE : Hid (o = none) := by show _ = _; rw [← unhide HC, unhide HSTEP, if_pos (Or.inr c2)]
            go_wp2
            go_ret
            exact ⟨by rw [unhide HE]; rfl, rfl⟩
          · have c2z : ¬ (16 : Int) < (q : Int) - (n : Int) + (m : Int) := by omega
            obtain ⟨q2, HQ2⟩ : ∃ q2, Hid (q2 = q - n + m) := ⟨q - n + m, rfl⟩
            have hq2 : (q : Int) - (n : Int) + (m : Int) = (q2 : Int) := by have := unhide HQ2; omega
            have hq2b : q2 ≤ 16 := by have := unhide HQ2; omega
            by_cases c3 : x.data.toList = [91]
            · have g3 : (x.toList == [91]) = true := toList_is c3
              obtain ⟨e, he1, he2, he3⟩ := (unhide HXX).shut i hix (by rw [unhide HX]; exact c3)
              have HCL := hide he1
              clear he1
              obtain ⟨r, HR⟩ : ∃ r, Hid (Sp.hgt (lst X) (X.length - (i + 1)) (i + 1) e q2 = r) := ⟨_, rfl⟩
              have HC3 := hide c3
              clear c3
              have hwi : IntKind.i64.wrap ((i : Int) + 1) = ((i + 1 : Nat) : Int) := by rw [IntKind.wrap_i64]; omega
              have HST2 : Hid (o = if r = some q2 then Sp.hgt (lst X) (X.length - (e + 1)) (e + 1) b q2 else none) := by
                show _ = _
                rw [← unhide HC, unhide HSTEP, if_neg (by omega), if_pos (by rw [unhide HX]; exact unhide HC3), unhide HCL]
                simp only
                rw [← unhide HQ2, unhide HR]
              obtain ⟨rv, HRV⟩ : ∃ rv : Int, Hid (Sp.hI r = rv) := ⟨_, rfl⟩
              have HCE : Hid (Sp.cloI (Sp.clo ((lst X).drop i) i 0) = (e : Int)) := by show _ = _; rw [unhide HCL]; rfl
              have HREC : Hid (∀ a' : Int, a' = ((i + 1 : Nat) : Int) → Calls Tryd.prog 35 #[.slice (some ⟨g, off, none⟩) X.length cap, .int .i64 a', .int .i64 e, .int .i64 q2] w fun e' w' => e' = .returned (.int .i64 rv) ∧ w' = w) := by
                intro a' ha'
                subst ha'
                have hc := (unhide HIH) (some ⟨g, off, none⟩) cap (i + 1) e q2 w (by omega) hS (by omega) (by omega) hq2b
                rw [unhide HR, unhide HRV] at hc
                exact hc
              by_cases hr : r = some q2
              · have hrv : rv = (q2 : Int) := by rw [← unhide HRV, hr]; rfl
                have HE : Hid (Sp.hgt (lst X) (X.length - (e + 1)) (e + 1) b q2 = o) := by show _ = _; rw [unhide HST2, if_pos hr]
                clear hr
                subst hrv
                go_wp2_with (first
                  | (go_at_call 50; refine (closes_any _ cap i X _ hS hlen (by omega)).mono ?_; rintro e' w2 ⟨rfl, hw2⟩; obtain rfl := hw2.symm; rw [unhide HCE])
                  | (go_at_call 35; refine ((unhide HREC) _ (by omega)).mono ?_; rintro e' w3 ⟨rfl, hw3⟩; obtain rfl := hw3.symm))
                go_roundw
                case rel => exact ⟨e + 1, q2, rfl, by go_num, by omega, by omega, hq2b, by trivial, HE⟩
                case measure => simp [intOf]; omega
              · have hne : rv ≠ (q2 : Int) := by
                  rw [← unhide HRV]
                  intro hc
                  apply hr
                  cases r with
                  | none => have hc' : (-1 : Int) = (q2 : Int) := hc; omega
                  | some v => have hc' : (v : Int) = (q2 : Int) := hc; rw [show v = q2 by omega]
                have gne : (rv != (q2 : Int)) = true := by rw [bne_iff_ne]; exact hne
                have HE : Hid (o = none) := by show _ = _; rw [unhide HST2, if_neg hr]
                clear hr hne
                go_wp2_with (first
                  | (go_at_call 50; refine (closes_any _ cap i X _ hS hlen (by omega)).mono ?_; rintro e' w2 ⟨rfl, hw2⟩; obtain rfl := hw2.symm; rw [unhide HCE])
                  | (go_at_call 35; refine ((unhide HREC) _ (by omega)).mono ?_; rintro e' w3 ⟨rfl, hw3⟩; obtain rfl := hw3.symm))
                go_ret
                exact ⟨by rw [unhide HE]; rfl, rfl⟩
            · have g3 : (x.toList == [91]) = false := toList_ne c3
              have HE : Hid (Sp.hgt (lst X) (X.length - (i + 1)) (i + 1) b q2 = o) := by
                show _ = _
                rw [← unhide HC, unhide HSTEP, if_neg (by omega), if_neg (by rw [unhide HX]; exact c3), ← unhide HQ2]
              clear c3
              go_wp2
              go_roundw
              case rel => exact ⟨i + 1, q2, rfl, by go_num, by omega, by omega, hq2b, by trivial, HE⟩
              case measure => simp [intOf]; omega
      · have hltz : ¬ (i : Int) < (b : Int) := by omega
        have HE : Hid (o = some q) := by
          show _ = _
          rw [← unhide HC]
          cases hf : X.length - i with
          | zero => unfold Sp.hgt; rfl
          | succ f => unfold Sp.hgt; rw [if_pos (by omega)]
        go_wp2
        go_ret
        exact ⟨by rw [unhide HE]; rfl, rfl⟩
end Go.Proofs.YteflnddphpjahaaDoor
