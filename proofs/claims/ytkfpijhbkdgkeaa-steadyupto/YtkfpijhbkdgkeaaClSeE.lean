import Derived.Test.YtkfpijhbkdgkeaaClSeC
import Derived.Test.YtkfpijhbkdgkeaaClShelf
import Derived.Laws.MakeOwn
import Derived.Deep.RegionWith
/-
  The walks of seals: appendLowFirst, head, Seal, Open.
-/
set_option linter.unusedVariables false
set_option linter.unusedSimpArgs false
set_option maxRecDepth 100000
namespace Go.Proofs.Ytkfpijhbkdgkeaa
open Go.RowKit

theorem Try.info_u8 : (Try.prog.info? 5).map (fun i => (i.zero, i.size, i.bytes)) = some (some (.int .u8 0), 1, 1) := by rfl
def low4 (m : Nat) : List Value := [.int .u8 ((m : Int) % 256), .int .u8 ((m : Int) / 256 % 256), .int .u8 ((m : Int) / 65536 % 256), .int .u8 ((m : Int) / 16777216)]

set_option maxHeartbeats 1000000 in
theorem low_any (B : Nat) (v : Value) (n : Nat) (xs : List Value) (m : Nat) (mm : Int) (w : World) (hmm : mm = (m : Int)) (hm : m < 4294967296) (hown : w.ownsRow B 5 1 v n xs) (hn : n ≤ 4) (hB : B ≤ w.heap.size) :
    Calls Try.prog 61 #[v, .int .u32 mm] w fun e w' => ∃ v', e = .returned v' ∧ w'.ownsRow B 5 1 v' (n + 4) (xs ++ low4 m) ∧ Below B w w' := by
  subst hmm
  obtain ⟨i0, hi, hz0, hz1, hz2⟩ := info_parts Try.info_u8
  go_enter Try.func61, Try.ntmps61
  go_wp2_with (first
    | (at_builtin; go_must (refine wpList_append_own _ rfl (.tmp 5) (.tmp 17) 27 rfl B 5 i0 _ 1 1 Try.underlying27 hi hz0 hz1 hz2 rfl (by decide) _ _ _ rfl (hown.alloc _) ⟨w.heap.size, 0, none⟩ 4 4 (low4 m) rfl rfl ?c1 ?c2 ?c3 ?c4 ?c5 ?_))
    | go_in)
  case c1 =>
    intro j u hj
    match j, hj with
    | 0, hj => simp [low4] at hj; subst hj; simp [Addr.add]
    | 1, hj => simp [low4] at hj; subst hj; simp [Addr.add]
    | 2, hj => simp [low4] at hj; subst hj; simp [Addr.add]
    | 3, hj => simp [low4] at hj; subst hj; simp [Addr.add]
    | j + 4, hj => simp [low4] at hj
  case c2 => intro u hu; simp [low4] at hu; rcases hu with rfl | rfl | rfl | rfl <;> rfl
  case c3 => unfold maxLen; omega
  case c4 => omega
  case c5 => simp; omega
  intro v3 w3 hl3 hg3 _
  have hbw3 := rel_app (ys := []) (v' := v3) (by simp; omega) (hown.alloc _) ((Below.refl B w).alloc hB _) hg3
  clear hg3 hown
  go_wp2
  go_ret
  exact ⟨v3, rfl, hl3, hbw3⟩

def nums4 (m : Nat) : List Int := [(m : Int) % 256, (m : Int) / 256 % 256, (m : Int) / 65536 % 256, (m : Int) / 16777216]
theorem low4_nums (m : Nat) : low4 m = (nums4 m).map (Value.int .u8) := rfl
theorem lek_mod (n : Nat) : Sp.lek (n % 4294967296) 4 = Sp.lek n 4 := by
  have h0 : n % 4294967296 / 256 ^ 0 % 256 = n / 256 ^ 0 % 256 := by omega
  have h1 : n % 4294967296 / 256 ^ 1 % 256 = n / 256 ^ 1 % 256 := by omega
  have h2 : n % 4294967296 / 256 ^ 2 % 256 = n / 256 ^ 2 % 256 := by omega
  have h3 : n % 4294967296 / 256 ^ 3 % 256 = n / 256 ^ 3 % 256 := by omega
  simp only [Sp.lek, h0, h1, h2, h3]
theorem nums4_lek (m : Nat) (hm : m < 4294967296) : (nums4 m).map (fun x => UInt8.ofNat x.toNat) = Sp.lek m 4 := by
  have h0 : ((m : Int) % 256).toNat = m / 256 ^ 0 % 256 := by omega
  have h1 : ((m : Int) / 256 % 256).toNat = m / 256 ^ 1 % 256 := by omega
  have h2 : ((m : Int) / 65536 % 256).toNat = m / 256 ^ 2 % 256 := by omega
  have h3 : ((m : Int) / 16777216).toNat = m / 256 ^ 3 % 256 := by omega
  simp only [nums4, List.map_cons, List.map_nil, h0, h1, h2, h3, Sp.lek, List.nil_append, List.cons_append]
theorem head_str (p : ByteArray) : strOfNums (nums4 (p.size % 4294967296) ++ nums4 (Sp.crc p)) = Sp.headB p := by
  apply ByteArray.ext
  unfold Sp.headB
  rw [ByteArray.data_append]
  apply Array.toList_inj.1
  rw [Array.toList_append]
  show (strOfNums (nums4 (p.size % 4294967296) ++ nums4 (Sp.crc p))).data.toList = Sp.lek p.size 4 ++ Sp.lek (Sp.crc p) 4
  rw [← lek_mod p.size, ← nums4_lek (p.size % 4294967296) (by omega), ← nums4_lek (Sp.crc p) (Sp.crc_lt p), ← List.map_append]
  simp [strOfNums]

set_option maxHeartbeats 1000000 in
theorem head_any (p : ByteArray) (w : World) (hp : p.size < 140737488355328) : Calls Try.prog 43 #[.string p] w fun e w' => e = .returned (.string (Sp.headB p)) ∧ Below w.heap.size w w' := by
  obtain ⟨i0, hi, hz0, hz1, hz2⟩ := info_parts Try.info_u8
  obtain ⟨w1, hr, hown1, hg1⟩ := run_make_own (P := Try.prog) w w.heap.size 27 5 i0 _ 1 Try.underlying27 hi hz0 hz1 .i64 .i64 8 (by rw [hz2]; omega) (by unfold maxLen; omega) (Nat.le_refl _)
  replace hr : (Instr.makeSlice 27 (.int .i64 0) (.int .i64 8)).run Try.prog w = .ok (.slice (some ⟨w.heap.size, 0, none⟩) 0 8) w1 := hr
  have hb1 : Below w.heap.size w w1 := (Below.refl _ w).grown hg1 (Nat.le_refl _) (fun j hj => by simp at hj)
  have hc := Sp.crc_lt p
  clear hg1
  go_enter Try.func43, Try.ntmps43
  go_wp2_with fail
  clear hr
  refine (low_any w.heap.size _ 0 [] (p.size % 4294967296) _ w1 (by omega) (by omega) hown1 (by omega) hb1.size).mono ?_
  rintro e w2 ⟨v2, rfl, hown2, hb2⟩
  have hb2 := hb1.trans hb2
  clear hb1 hown1
  go_wp2_with fail
  refine (sum_any p _ (by omega)).mono ?_
  rintro e w3 ⟨rfl, rfl⟩
  go_wp2_with fail
  refine (low_any w.heap.size _ _ _ (Sp.crc p) _ w3 rfl (by omega) hown2 (by omega) hb2.size).mono ?_
  rintro e w4 ⟨v4, rfl, hown4, hb4⟩
  have hb4 := hb2.trans hb4
  have hcv : (convert 27 9 v4).run Try.prog w4 = .ok (.string (Sp.headB p)) w4 := by
    rcases hown4.2 with ⟨_, h⟩ | ⟨g, cap, cur, rfl, h⟩
    · simp at h
    · rw [← head_str]
      refine run_convert_bytes_arg _ 27 5 Try.underlying27 Try.underlying5 g 0 _ cap (nums4 (p.size % 4294967296) ++ nums4 (Sp.crc p)) rfl (fun i hi => ?_) 9 Try.underlying9
      have hx := hown4.cells (g := g) rfl i (.int .u8 ((nums4 (p.size % 4294967296) ++ nums4 (Sp.crc p)).getD i 0)) (by
        rw [List.nil_append, low4_nums, low4_nums, ← List.map_append, List.getElem?_map]
        rw [List.getD_eq_getElem?_getD]
        have hi8 : i < (nums4 (p.size % 4294967296) ++ nums4 (Sp.crc p)).length := hi
        rw [List.getElem?_eq_getElem hi8]; rfl)
      rw [Nat.zero_add]
      have ha : (⟨g, 0, none⟩ : Addr).add i = ⟨g, i, none⟩ := by
        by_cases h0 : i = 0
        · subst h0; simp [Addr.add]
        · simp [Addr.add, h0]
      rw [ha] at hx
      exact hx
  clear hown2 hown4
  go_wp2
  go_ret
  exact ⟨rfl, hb4⟩

set_option maxHeartbeats 1000000 in
theorem sseal_any (p : ByteArray) (w : World) (hp : p.size < 140737488355328) : Calls Try.prog 27 #[.string p] w fun e w' => e = .returned (.string (Sp.sealB p)) ∧ Below w.heap.size w w' := by
  have z1 := Nat.le_of_eq (Sp.headB_size p)
  go_enter Try.func27, Try.ntmps27
  go_wp2_with fail
  refine (head_any p _ hp).mono ?_
  rintro e w1 ⟨rfl, hb1⟩
  go_wp2
  go_ret
  exact ⟨rfl, hb1⟩
set_option maxHeartbeats 1000000 in
theorem seal_any (p : ByteArray) (w : World) (hp : p.size < 140737488355328) : Calls Try.prog 10 #[.string p] w fun e w' => e = .returned (.string (Sp.sealB p)) ∧ Below w.heap.size w w' := by
  go_enter Try.func10, Try.ntmps10
  go_wp2_with fail
  refine (sseal_any p _ hp).mono ?_
  rintro e w1 ⟨rfl, hb1⟩
  go_wp2
  go_ret
  exact ⟨rfl, hb1⟩
set_option maxHeartbeats 1000000 in
theorem clone_any (p : ByteArray) (w : World) (hp : p.size ≤ 140737488355328) : Calls Try.prog 44 #[.string p] w fun e w' => e = .returned (.string p) ∧ Below w.heap.size w w' := by
  go_enter Try.func44, Try.ntmps44
  go_wp2_with fail
  refine (Try.stringslite_Clone p _ (by omega)).mono ?_
  rintro e w1 ⟨rfl, hb1⟩
  go_wp2
  go_ret
  exact ⟨rfl, hb1⟩

theorem ba_ne {a b : ByteArray} (h : ¬ a = b) : (a.toList == b.toList) = false := by
  apply Bool.eq_false_iff.2
  intro hh
  have h1 := eq_of_beq hh
  rw [ByteArray.toList_eq, ByteArray.toList_eq] at h1
  exact h (ByteArray.ext (Array.toList_inj.1 h1))
theorem ba_eq {a b : ByteArray} (h : a = b) : (a.toList == b.toList) = true := by subst h; simp

set_option maxHeartbeats 1000000 in
theorem sopen_any (s : ByteArray) (w : World) (hs : s.size ≤ 140737488355328) : Calls Try.prog 28 #[.string s] w fun e w' => e = .returned (.tuple #[.string (Sp.openB s), .bool (Sp.okB s)]) ∧ Below w.heap.size w w' := by
  by_cases c : s.size < 8
  · have c1 : (s.size : Int) < 8 := by omega
    have h1 := Sp.okB_short c
    rw [Sp.openB_f h1, h1]
    clear h1 c
    go_enter Try.func28, Try.ntmps28
    go_wp2
    go_ret2
    exact ⟨rfl, Below.refl _ _⟩
  · have c1 : ¬ (s.size : Int) < 8 := by omega
    have hk := Sp.okB_iff (s := s) (by omega)
    have hpz : (s.extract 8 s.size).size < 140737488355328 := by rw [ByteArray.size_extract]; omega
    have rh := fun w => head_any (s.extract 8 s.size) w hpz
    have rc := fun w => clone_any (s.extract 8 s.size) w (by omega)
    by_cases q : s.extract 0 8 = Sp.headB (s.extract 8 s.size)
    · have h1 : Sp.okB s = true := hk.2 q
      rw [h1, Sp.openB_t h1]
      have t1 := ba_eq q
      clear hk h1 q hpz
      go_enter Try.func28, Try.ntmps28
      go_wp2_with fail
      go_region_with (go_at_call 43; refine (rh _).mono ?_; rintro e w1 ⟨rfl, hb1⟩)
      have hb1 : Below w.heap.size w w1 := (Below.refl w.heap.size w).drew.trans hb1
      go_wp2_with fail
      refine (rc _).mono ?_
      rintro e w2 ⟨rfl, hb2⟩
      go_wp2
      go_ret2
      exact ⟨rfl, hb1.trans (hb2.mono hb1.size)⟩
    · have h1 : Sp.okB s = false := Bool.eq_false_iff.2 (fun h => q (hk.1 h))
      rw [h1, Sp.openB_f h1]
      have t1 := ba_ne q
      clear hk h1 q hpz rc
      go_enter Try.func28, Try.ntmps28
      go_wp2_with fail
      go_region_with (go_at_call 43; refine (rh _).mono ?_; rintro e w1 ⟨rfl, hb1⟩)
      have hb1 : Below w.heap.size w w1 := (Below.refl w.heap.size w).drew.trans hb1
      go_wp2
      go_ret2
      exact ⟨rfl, hb1⟩
set_option maxHeartbeats 1000000 in
theorem open_any (s : ByteArray) (w : World) (hs : s.size ≤ 140737488355328) : Calls Try.prog 11 #[.string s] w fun e w' => e = .returned (.tuple #[.string (Sp.openB s), .bool (Sp.okB s)]) ∧ Below w.heap.size w w' := by
  go_enter Try.func11, Try.ntmps11
  go_wp2_with fail
  refine (sopen_any s _ hs).mono ?_
  rintro e w1 ⟨rfl, hb1⟩
  go_wp2
  go_ret2
  exact ⟨rfl, hb1⟩
end Go.Proofs.Ytkfpijhbkdgkeaa
