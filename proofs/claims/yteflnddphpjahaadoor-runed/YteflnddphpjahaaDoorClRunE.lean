import Derived.Test.YteflnddphpjahaaDoorClRunD
import Derived.Test.YteflnddphpjahaaDoorClSameA
import Derived.BigQuiet
/-
  Runed, the first part: the texts.
-/
set_option linter.unusedVariables false
set_option linter.unusedSimpArgs false
set_option maxRecDepth 100000
namespace Go.Proofs.YteflnddphpjahaaDoor
open Go.RowKit

theorem list_size (b : ByteArray) : b.size = b.data.toList.length := by simp
theorem app_list (a b : ByteArray) : (a ++ b).data.toList = a.data.toList ++ b.data.toList := by rw [ByteArray.data_append, Array.toList_append]
theorem txt_take_succ {R : List Nat} {i : Nat} (h : i < R.length) : Sp.txt (R.take (i + 1)) 0 = Sp.txt (R.take i) 0 ++ (Sp.vl R[i] i ++ [10]) := by
  rw [List.take_succ_eq_append_getElem h, Sp.txt_append]
  have e : 0 + (R.take i).length = i := by simp; omega
  rw [e]
  simp [Sp.txt]
theorem txt_take_len (R : List Nat) (i : Nat) (h : R.length ≤ 64) : (Sp.txt (R.take i) 0).length ≤ 512 := by
  have h1 := Sp.txt_len (R.take i) 0
  have h2 : (R.take i).length ≤ 64 := by simp; omega
  omega

set_option maxHeartbeats 4000000 in
theorem runed_any (p : Option Addr) (n cap : Nat) (ah : Int) (w : World) (h : RawAt w p n) (hn : n ≤ 9223372036854775807) (hT : Lib.Utf8Tabs 2 3 w) (hS : SplitOk w) (ha1 : -9223372036854775808 ≤ ah) (ha2 : ah ≤ 9223372036854775807) :
    Calls Tryd.prog 5 #[.slice p n cap, .int .i64 ah] w fun e w' => e = .returned (.bool true) ∧ Below w.heap.size w w' := by
  go_enter Tryd.func5, Tryd.ntmps5
  go_wp2_with fail
  refine (runes_any p n cap _ h hn).mono ?_
  rintro e w1 ⟨hb1, v, R, rfl, ho, hRl, hRn, hRo⟩
  have HR := hide (And.intro hRn hRo)
  clear h hRn hRo
  obtain ⟨pv, kv, rfl, hcs⟩ := own_slice ho
  have hwl : IntKind.i64.wrap ((R.length : Int) + 1) = ((R.length + 1 : Nat) : Int) := by rw [IntKind.wrap_i64]; omega
  go_wp2_with (go_at_call 10; refine (pick_any ah (R.length + 1) _ ha1 ha2 (by omega) (by omega)).mono ?_; rintro e w2 ⟨⟨m, rfl, hm⟩, hw2⟩; obtain rfl := hw2.symm)
  go_loopw [6, 7, 8, 10] (fun a b c d wr => ∃ (i at' : Nat) (sb bb : ByteArray), a = .string sb ∧ b = .string bb ∧ c = .int .i64 at' ∧ d = .int .i64 i ∧ i ≤ R.length ∧ Below w1.heap.size w1 wr ∧ sb.size ≤ 512 ∧ bb.size ≤ 512 ∧ at' ≤ 512 ∧ Hid (sb.data.toList = Sp.txt (R.take i) 0) ∧ Hid (m < i → bb.data.toList = Sp.txt (R.take m) 0 ∧ at' = (Sp.txt (R.take m) 0).length)) (fun _ _ _ d _ => R.length - (intOf d).toNat)
  case atStart => exact ⟨0, 0, ⟨#[]⟩, ⟨#[]⟩, rfl, rfl, rfl, rfl, Nat.zero_le _, Below.refl _ _, by decide, by decide, by decide, by show _ = _; simp [Sp.txt], fun hq => by omega⟩
  case round =>
    obtain ⟨i, at', sb, bb, rfl, rfl, rfl, rfl, hi, hb, hs1, hs2, hs3, HSB, HBB⟩ := hrel
    by_cases hlt : i < R.length
    · have hltz : (i : Int) < (R.length : Int) := by omega
      obtain ⟨g, rfl, hg1, hg2, hg3⟩ := hcs i (by omega)
      have hg4 : wr.cell? ⟨g, i, none⟩ = some (.int .i64 (R[i] : Int)) := by rw [hb.cell (p := ⟨g, i, none⟩) hg2, hg3]; simp [nats, hlt]
      clear hg3
      have hok := (unhide HR).2 R[i] (List.getElem_mem hlt)
      have HOK := hide hok
      have hr0 : R[i] < 1114112 := hok.1.1
      clear hok
      have HT1 := hide (txt_take_succ hlt)
      have hl1 := txt_take_len R (i + 1) hRl
      by_cases him : i = m
      · subst him
        have gi : ((i : Int) == (i : Int)) = true := by simp
        go_wp2_with (first
          | (go_at_call 11; refine (encoded_any R[i] _ hr0).mono ?_; rintro e w3 ⟨⟨tb, rfl, htb⟩, hb3⟩; have HTB := hide htb; have htz : tb.size ≤ 4 := (by rw [list_size, htb]; exact (Sp.en_len _).2); clear htb)
          | (go_at_call 12; refine (decimal_any i _ (by omega)).mono ?_; rintro e w4 ⟨⟨db, rfl, hdb⟩, hb4⟩; have HDB := hide hdb; have hdz : db.size ≤ 2 := (by rw [list_size, hdb]; exact (Sp.dm_len _).2); clear hdb))
        have HSN : Hid ((sb ++ tb ++ ⟨#[32]⟩ ++ db ++ ⟨#[10]⟩ : ByteArray).data.toList = Sp.txt (R.take (i + 1)) 0) := by
          show _ = _
          rw [app_list, app_list, app_list, app_list, unhide HSB, unhide HTB, unhide HDB, unhide HT1]
          simp [Sp.vl]
        go_roundw
        case rel =>
          refine ⟨i + 1, sb.size, _, sb, rfl, rfl, rfl, by go_num, by omega, hb.trans ((hb3.trans (hb4.mono hb3.size)).mono hb.size), ?_, hs1, hs1, HSN, fun _ => ⟨unhide HSB, by rw [list_size, unhide HSB]⟩⟩
          rw [list_size, unhide HSN]; exact hl1
        case measure => simp [intOf]; omega
      · have gi : ((i : Int) == (m : Int)) = false := by rw [beq_eq_false_iff_ne]; omega
        go_wp2_with (first
          | (go_at_call 11; refine (encoded_any R[i] _ hr0).mono ?_; rintro e w3 ⟨⟨tb, rfl, htb⟩, hb3⟩; have HTB := hide htb; have htz : tb.size ≤ 4 := (by rw [list_size, htb]; exact (Sp.en_len _).2); clear htb)
          | (go_at_call 12; refine (decimal_any i _ (by omega)).mono ?_; rintro e w4 ⟨⟨db, rfl, hdb⟩, hb4⟩; have HDB := hide hdb; have hdz : db.size ≤ 2 := (by rw [list_size, hdb]; exact (Sp.dm_len _).2); clear hdb))
        have HSN : Hid ((sb ++ tb ++ ⟨#[32]⟩ ++ db ++ ⟨#[10]⟩ : ByteArray).data.toList = Sp.txt (R.take (i + 1)) 0) := by
          show _ = _
          rw [app_list, app_list, app_list, app_list, unhide HSB, unhide HTB, unhide HDB, unhide HT1]
          simp [Sp.vl]
        go_roundw
        case rel =>
          refine ⟨i + 1, at', _, bb, rfl, rfl, rfl, by go_num, by omega, hb.trans ((hb3.trans (hb4.mono hb3.size)).mono hb.size), ?_, hs2, hs3, HSN, fun hq => (unhide HBB) (by omega)⟩
          rw [list_size, unhide HSN]; exact hl1
        case measure => simp [intOf]; omega
    · have hltz : ¬ (i : Int) < (R.length : Int) := by omega
      obtain rfl : i = R.length := by omega
      have HSR : Hid (sb.data.toList = Sp.txt R 0) := by show _ = _; rw [unhide HSB, List.take_length]
      clear HSB
      go_upto_if 55 with fail
      go_cut [7, 8] (fun b c wx => ∃ (at' : Nat) (bb : ByteArray), b = .string bb ∧ c = .int .i64 at' ∧ bb.size ≤ 512 ∧ at' ≤ 512 ∧ wx = wr ∧ Hid (bb.data.toList = Sp.txt (R.take m) 0 ∧ at' = (Sp.txt (R.take m) 0).length))
      case first =>
        by_cases hme : m = R.length
        · subst hme
          have gi : ((R.length : Int) == (R.length : Int)) = true := by simp
          go_wp2
          go_meet
          exact ⟨sb.size, sb, rfl, rfl, hs1, hs1, rfl, by rw [List.take_length]; exact unhide HSR, by rw [List.take_length, list_size, unhide HSR]⟩
        · have gi : ((m : Int) == (R.length : Int)) = false := by rw [beq_eq_false_iff_ne]; omega
          go_wp2
          go_meet
          exact ⟨at', bb, rfl, rfl, hs2, hs3, rfl, (unhide HBB) (by omega)⟩
      case rest =>
      clear HBB hs2 hs3
      obtain ⟨q, b2, rfl, rfl, hs2, hs3, hwc, HBB⟩ := hcut
      obtain rfl := hwc.symm
      clear hwc
      have HAP : Hid (Sp.txt R 0 = Sp.txt (R.take m) 0 ++ Sp.txt (R.drop m) (0 + (R.take m).length)) := by
        show _ = _
        rw [← Sp.txt_append, List.take_append_drop]
      have hle : q ≤ sb.size := by
        rw [(unhide HBB).2, list_size, unhide HSR, unhide HAP, List.length_append]; omega
      have hlez : (q : Int) ≤ (sb.size : Int) := by omega
      have HP1 : Hid (Sp.parseSpec (b2 ++ ⟨#[255]⟩ ++ sb.extract q sb.size) = .error (2, (q : Int))) := by
        have hx : (b2 ++ ⟨#[255]⟩ ++ sb.extract q sb.size : ByteArray).data.toList = Sp.txt (R.take m) 0 ++ 255 :: sb.data.toList.drop q := by
          rw [app_list, app_list, (unhide HBB).1, Sp.extract_drop]
          simp
        have := Sp.spec_broken (R := R.take m) (fun r hr => (unhide HR).2 r (List.mem_of_mem_take hr)) (by simp; omega) hx (by rw [List.length_drop, ← list_size]; omega)
        rw [← (unhide HBB).2] at this
        exact this
      obtain ⟨L, T, HP2, HTO, HVS, HES⟩ : ∃ L T, Hid (Sp.parseSpec sb = .ok L) ∧ Hid (Sp.Told R T) ∧ Hid ((Sp.vs L (Sp.nv L)).map (fun l => (l.frm, l.n)) = T) ∧ Hid (Sp.es L (Sp.nv L) (Sp.nv L) = []) := by
        obtain ⟨L, T, h1, h2, h3, h4⟩ := Sp.spec_runed (unhide HR).2 (unhide HR).1 hRl (unhide HSR)
        exact ⟨L, T, h1, h2, h3, h4⟩
      have hbw : Below w.heap.size w wr := hb1.trans (hb.mono hb1.size)
      go_wp2_with fail
      refine (sparse_any _ _ (tabs_below hT hbw) (split_ok_below hS hbw)).mono ?_
      rintro e w3 ⟨⟨hb3, hm3⟩, _⟩
      rw [unhide HP1] at hm3
      obtain rfl := hm3
      have hb13 : Below w1.heap.size w1 w3 := hb.trans (hb3.mono hb.size)
      clear hb3
      unfold graphVal
      go_wp2_with fail
      have hA3 : Below w3.heap.size w3 (w3.alloc (.cells #[.slice none 0 0, .slice none 0 0, .slice none 0 0] 40)) := (Below.refl _ _).alloc (Nat.le_refl _) _
      have hb13a : Below w1.heap.size w1 (w3.alloc (.cells #[.slice none 0 0, .slice none 0 0, .slice none 0 0] 40)) := hb13.trans (hA3.mono hb13.size)
      have hbw3 := hb1.trans (hb13a.mono hb1.size)
      refine (sparse_any sb _ (tabs_below hT hbw3) (split_ok_below hS hbw3)).mono ?_
      rintro e w4 ⟨⟨hb4, hm4⟩, _⟩
      rw [unhide HP2] at hm4
      obtain ⟨gv, gu, gx, rfl, r0, r1, r2⟩ := hm4
      have hb14 : Below w1.heap.size w1 w4 := hb13a.trans (hb4.mono hb13a.size)
      rw [unhide HES] at r2
      have hvl : (Sp.vs L (Sp.nv L)).length = R.length := by
        have h1 := congrArg List.length (unhide HVS)
        have h2 := (unhide HTO).len
        simp at h1
        omega
      have hN : (Sp.vs L (Sp.nv L)).map (·.frm) = T.map (·.1) := by rw [← unhide HVS]; simp
      have hV : (Sp.vs L (Sp.nv L)).map (·.n) = T.map (·.2) := by rw [← unhide HVS]; simp
      rw [hvl, hN] at r0
      rw [hvl, hV] at r1
      obtain ⟨p0, k0, rfl, c0⟩ := own_slice r0
      obtain ⟨p1, k1, rfl, c1⟩ := own_slice r1
      obtain ⟨p2, k2, rfl, _⟩ := own_slice r2
      have HC0 := hide c0
      have HC1 := hide c1
      have HCS := hide hcs
      have hb04 := hb1.trans (hb14.mono hb1.size)
      have hTl : T.length = R.length := (unhide HTO).len
      clear hvl hN hV r0 r1 r2 c0 c1 hcs hb4 hA3 hb13a hbw3 hb13 hb hbw ho hlez hle
      simp only [List.length_nil]
      unfold graphVal
      obtain ⟨W5, hW5⟩ : ∃ W5, w4.alloc (.cells #[.slice p0 R.length k0, .slice p1 R.length k1, .slice p2 0 k2] 40) = W5 := ⟨_, rfl⟩
      have hG5 : W5.heap[w4.heap.size]? = some (.cells #[.slice p0 R.length k0, .slice p1 R.length k1, .slice p2 0 k2] 40 (0, 0)) := by rw [← hW5]; exact World.alloc_heap_new w4 _
      have hb45 : Below w4.heap.size w4 W5 := by rw [← hW5]; exact (Below.refl _ _).alloc (Nat.le_refl _) _
      have hs5 : w4.heap.size < W5.heap.size := (Array.getElem?_eq_some_iff.1 hG5).1
      have HW5 := hide hW5
      clear hW5
      go_wp2
      go_loopw [18] (fun u wr2 => ∃ k : Nat, u = .int .i64 k ∧ k ≤ R.length ∧ Below W5.heap.size W5 wr2) (fun u _ => R.length - (intOf u).toNat)
      case atStart => exact ⟨0, rfl, Nat.zero_le _, by rw [unhide HW5]; exact Below.refl _ _⟩
      case round =>
        obtain ⟨k, rfl, hk, hb5⟩ := hrel
        obtain ⟨n0, n1, n2, _⟩ := blk3_cell ((hb5.block _ hs5).trans hG5)
        have hb45' : Below w4.heap.size w4 wr := hb45.trans (hb5.mono hb45.size)
        by_cases hkl : k < R.length
        · have hklz : (k : Int) < (R.length : Int) := by omega
          obtain ⟨j, hj, hjt⟩ := (unhide HTO).mem T[k] (List.getElem_mem (by omega))
          obtain ⟨g0, rfl, _, hg01, hg02⟩ := (unhide HC0) k (by omega)
          obtain ⟨g1, rfl, _, hg11, hg12⟩ := (unhide HC1) k (by omega)
          obtain ⟨g2, rfl, _, hg21, hg22⟩ := (unhide HCS) j (by omega)
          obtain ⟨rj, hrj⟩ : ∃ rj, R[j] = rj := ⟨_, rfl⟩
          have hr0 : rj < 1114112 := by rw [← hrj]; exact ((unhide HR).2 R[j] (List.getElem_mem hj)).1.1
          have d0 : wr.cell? ⟨g0, k, none⟩ = some (.int .i32 (rj : Int)) := by
            rw [hb45'.cell (p := ⟨g0, k, none⟩) hg01, hg02, List.map_map, List.getElem?_map, List.getElem?_eq_getElem (show k < T.length by omega), hjt, hrj]; rfl
          have d1 : wr.cell? ⟨g1, k, none⟩ = some (.int .i64 (j : Int)) := by
            rw [hb45'.cell (p := ⟨g1, k, none⟩) hg11, hg12, List.map_map, List.getElem?_map, List.getElem?_eq_getElem (show k < T.length by omega), hjt]; rfl
          have d2 : wr.cell? ⟨g2, j, none⟩ = some (.int .i64 (rj : Int)) := by
            rw [(hb14.trans (hb45'.mono hb14.size)).cell (p := ⟨g2, j, none⟩) hg21, hg22]
            simp [nats, hj, hrj]
          have q2 : decide (R.length ≤ j) = false := decide_eq_false (by omega)
          have hjz : (j : Int) < (R.length : Int) := by omega
          have hwr : IntKind.i64.wrap (rj : Int) = (rj : Int) := by rw [IntKind.wrap_i64]; omega
          have hTz : k < T.length := by omega
          by_cases hk0 : 0 < k
          · have gk : decide ((0 : Int) < (k : Int)) = true := decide_eq_true (by omega)
            have gk' : (0 : Int) < (k : Int) := by omega
            obtain ⟨y, HY⟩ : ∃ y, Hid (k = y + 1) := ⟨k - 1, by show _ = _; omega⟩
            have hyk : y < k := by have := unhide HY; omega
            have hyz : (y : Int) < (R.length : Int) := by omega
            have hwy : IntKind.i64.wrap ((k : Int) - 1) = (y : Int) := by have := unhide HY; rw [IntKind.wrap_i64]; omega
            obtain ⟨j2, hj2, hjt2⟩ := (unhide HTO).mem T[y] (List.getElem_mem (by omega))
            obtain ⟨g3, hg3, _, hg31, hg32⟩ := (unhide HC0) y (by omega)
            injection hg3 with hg3
            injection hg3 with hg3
            subst hg3
            obtain ⟨rj2, hrj2⟩ : ∃ rj2, R[j2] = rj2 := ⟨_, rfl⟩
            have d3 : wr.cell? ⟨g0, y, none⟩ = some (.int .i32 (rj2 : Int)) := by
              rw [hb45'.cell (p := ⟨g0, y, none⟩) hg31, hg32, List.map_map, List.getElem?_map, List.getElem?_eq_getElem (show y < T.length by omega), hjt2, hrj2]; rfl
            have hlt3 : (rj2 : Int) < (rj : Int) := by
              have hs := (unhide HTO).srt
              have h1 := (List.pairwise_iff_getElem.1 hs) y k (by omega) (by omega) hyk
              rw [hjt, hjt2, hrj, hrj2] at h1
              exact h1
            have gg : decide (rj ≤ rj2) = false := decide_eq_false (by omega)
            clear hjt hrj hjt2 hrj2 hg02 hg12 hg22 hg32 hTl hTz hlt3 hG5 hg01 hg11 hg21 hg31
            go_wp2_with fail
            go_quiet (fail)
            clear gk gk' gg d3 hwy hyz hyk HY hk0 hj2
            go_wp2_with fail
            go_quiet (fail)
            clear d0 d1 d2 n0 n1 n2 hjz
            go_wp2
            go_roundw
            case rel => exact ⟨k + 1, by go_num, by omega, hb5.trans ((below_drewN _ _).mono hb5.size)⟩
            case measure => simp [intOf]; omega
          · have gk : decide ((0 : Int) < (k : Int)) = false := decide_eq_false (by omega)
            clear hjt hrj hg02 hg12 hg22 hTl hTz hG5 hg01 hg11 hg21
            go_wp2_with fail
            go_quiet (fail)
            go_wp2_with fail
            go_quiet (fail)
            clear d0 d1 d2 n0 n1 n2 gk hk0 hjz
            go_wp2
            go_roundw
            case rel => exact ⟨k + 1, by go_num, by omega, hb5.trans ((below_drewN _ _).mono hb5.size)⟩
            case measure => simp [intOf]; omega
        · have hklz : ¬ (k : Int) < (R.length : Int) := by omega
          go_wp2
          go_ret
          exact ⟨rfl, hb04.trans (hb45'.mono hb04.size)⟩
end Go.Proofs.YteflnddphpjahaaDoor
