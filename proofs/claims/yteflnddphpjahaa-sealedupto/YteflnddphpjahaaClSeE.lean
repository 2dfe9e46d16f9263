import Derived.Test.YteflnddphpjahaaClSeC
import Derived.Test.YteflnddphpjahaaClShelf
import Derived.Laws.MakeOwn
import Derived.Deep.AppendLies
import Derived.Deep.RegionWith
/-
  The walks of little.Writer and of seals: Put, head, Seal, Open.
-/
set_option linter.unusedVariables false
set_option linter.unusedSimpArgs false
set_option maxRecDepth 100000
namespace Go.Proofs.Yteflnddphpjahaa
open Go.RowKit

theorem Try.info_u8 : (Try.prog.info? 5).map (fun i => (i.zero, i.size, i.bytes)) = some (some (.int .u8 0), 1, 1) := by rfl
/-- Bytes as cells. -/
def u8s (l : List UInt8) : List Value := l.map fun b => .int .u8 (b.toNat : Int)
theorem u8s_app (a b : List UInt8) : u8s (a ++ b) = u8s a ++ u8s b := List.map_append
/-- A Writer in block M that has written these bytes. -/
structure Wri (w : World) (M n : Nat) (l : List UInt8) (v : Value) : Prop where
  c : w.cell? ⟨M, 0, none⟩ = some v
  z : w.frozen? ⟨M, 0, none⟩ = false
  o : w.ownsRow (M + 1) 5 1 v n (u8s l)
theorem Wri.lt {w : World} {M n : Nat} {l : List UInt8} {v : Value} (h : Wri w M n l v) : M < w.heap.size := World.block_lt_of_cell? w _ h.c
theorem Wri.ne {w : World} {M n : Nat} {l : List UInt8} {v : Value} (h : Wri w M n l v) : some M ≠ v.ownBlock := fun e => by have := (h.o.lt M e.symm).1; omega

theorem Wri.alloc {w : World} {M n : Nat} {l : List UInt8} {v : Value} (h : Wri w M n l v) (ob : Obj) : Wri (w.alloc ob) M n l v :=
  ⟨((Below.refl w.heap.size w).alloc (Nat.le_refl _) ob).cell (p := ⟨M, 0, none⟩) h.lt |>.trans h.c, ((Below.refl w.heap.size w).alloc (Nat.le_refl _) ob).frozen (p := ⟨M, 0, none⟩) h.lt |>.trans h.z, h.o.alloc ob⟩
theorem own_aside {w : World} {M e size n : Nat} {v : Value} {xs : List Value} (ho : w.ownsRow (M + 1) e size v n xs) (h0 : 0 < n) (u : Value) : (w.setCell ⟨M, 0, none⟩ u).ownsRow (M + 1) e size v n xs := by
  obtain ⟨h1, h2⟩ := ho
  refine ⟨h1, ?_⟩
  rcases h2 with h2 | ⟨g, cap, cur, hv, hB, hg, r⟩
  · exact .inl h2
  · exact .inr ⟨g, cap, cur, hv, hB, (Below.heap_setCell _ _ _ g (fun e => by have e' : g = M := e; omega)).trans hg, r⟩
theorem byte_cell (n k : Nat) : Value.int .u8 ((n / 256 ^ k % 256 : Nat) : Int) = .int .u8 ((UInt8.ofNat (n / 256 ^ k % 256)).toNat : Int) := by
  have h : n / 256 ^ k % 256 < 256 := Nat.mod_lt _ (by omega)
  rw [UInt8.toNat_ofNat']
  congr 2
  omega
def PutTo (M n : Nat) (l : List UInt8) (w w' : World) : Prop := ∃ v', Wri w' M n l v' ∧ Below M w w'
set_option maxHeartbeats 1000000 in
theorem put_any (M n k sz : Nat) (l : List UInt8) (v : Value) (w : World) (h : Wri w M sz l v) (hs : sz + k ≤ 100000000) (hk : k ≤ 8) (hn : n < 18446744073709551616) :
    Calls Try.prog 61 #[.pointer (some ⟨M, 0, none⟩), .int .u64 n, .int .i64 k] w fun e w' => e = .returned (.tuple #[]) ∧ PutTo M (sz + k) (l ++ Sp.lek n k) w w' := by
  obtain ⟨i0, hi, hz0, hz1, hz2⟩ := info_parts Try.info_u8
  go_enter Try.func61, Try.ntmps61
  go_wp2
  go_loopw [1, 7] (fun nn ii wr => ∃ (j : Nat) (u : Value), j ≤ k ∧ ii = .int .i64 j ∧ nn = .int .u64 ((n / 256 ^ j : Nat) : Int) ∧ Hid (Wri wr M (sz + j) (l ++ Sp.lek n j) u) ∧ Hid (Below M w wr)) (fun _ ii _ => k - (intOf ii).toNat)
  case atStart => exact ⟨0, v, by omega, rfl, by simp, hide (by rw [Sp.lek, List.append_nil]; exact h), Below.refl _ _⟩
  case round =>
    obtain ⟨j, u, hj, rfl, rfl, HW, HB⟩ := hrel
    have hw := unhide HW
    have c0 := hw.c
    have z0 := hw.z
    have hml := hw.lt
    have hm : n / 256 ^ j < 18446744073709551616 := Nat.lt_of_le_of_lt (Nat.div_le_self _ _) hn
    have hbc := hide (byte_cell n j)
    generalize hG : n / 256 ^ j = G at hm
    replace hG := hide hG
    by_cases c : j < k
    · have c1 : (j : Int) < (k : Int) := by omega
      have hne := hw.ne
      go_wp2_with (first
        | (at_builtin; go_must (refine wpList_append_own _ rfl (.tmp 13) (.tmp 16) 27 rfl (M + 1) 5 i0 _ 1 1 Try.underlying27 hi hz0 hz1 hz2 rfl (by decide) _ _ _ rfl ((hw.alloc _).o) ⟨wr.heap.size, 0, none⟩ 1 1 [.int .u8 ((G : Int) % 256)] rfl rfl ?c1 ?c2 ?c3 ?c4 ?c5 ?_))
        | go_in)
      case c1 =>
        intro j u hj
        match j, hj with
        | 0, hj => simp at hj; subst hj; simp [Addr.add]
        | j + 1, hj => simp at hj
      case c2 => intro u hu; simp at hu; subst hu; rfl
      case c3 => unfold maxLen; omega
      case c4 => omega
      case c5 => simp; omega
      intro v3 w3 hl3 hg3 _
      have hwa := hw.alloc (.cells #[.int .u8 ((G : Int) % 256)] 5)
      have hb0 := (unhide HB).alloc (Nat.le_of_lt hml) (.cells #[.int .u8 ((G : Int) % 256)] 5)
      have q0 : w3.cell? ⟨M, 0, none⟩ = some u := (hg3.cell_far ⟨M, 0, none⟩ (by simp; omega) hne).trans hwa.c
      have q1 : w3.frozen? ⟨M, 0, none⟩ = false := (hg3.frozen_far ⟨M, 0, none⟩ (by simp; omega) hne).trans hwa.z
      have hb3 := (hb0.grown hg3 (by simp; omega) (fun k hk => by have := (hwa.o.lt k hk).1; omega)).setCell (p := ⟨M, 0, none⟩) (Nat.le_refl _) v3
      have hw3 : Wri (w3.setCell ⟨M, 0, none⟩ v3) M (sz + (j + 1)) (l ++ Sp.lek n (j + 1)) v3 := by
        refine ⟨World.cell?_setCell_same _ _ _ q0, by rw [World.frozen?_setCell]; exact q1, ?_⟩
        have h4 := own_aside hl3 (M := M) (by omega) v3
        rw [show sz + (j + 1) = sz + j + 1 by omega]
        have e4 : u8s (l ++ Sp.lek n (j + 1)) = u8s (l ++ Sp.lek n j) ++ [Value.int .u8 ((G : Int) % 256)] := by
          rw [Sp.lek, ← List.append_assoc, u8s_app (l ++ Sp.lek n j)]
          congr 1
          show [Value.int .u8 ((UInt8.ofNat (n / 256 ^ j % 256)).toNat : Int)] = _
          rw [← unhide hbc, unhide hG]
          rfl
        rw [e4]
        exact h4
      obtain ⟨g3, cap3, rfl⟩ : ∃ g cap, v3 = .slice (some ⟨g, 0, none⟩) (sz + j + 1) cap := by
        rcases hl3.2 with ⟨_, hn0⟩ | ⟨g, cap, cur, hv, _⟩
        · omega
        · exact ⟨g, cap, hv⟩
      have HW3 := hide hw3
      have HB3 := hide hb3
      clear hw3 hb3 hwa hb0 hl3 hg3 hw HW HB hne
      go_wp2
      go_roundw
      case rel =>
        refine ⟨j + 1, _, by omega, by go_num, ?_, HW3, HB3⟩
        rw [Nat.pow_succ, ← Nat.div_div_eq_div_mul, unhide hG]; go_num
      case measure => simp [intOf]; omega
    · have e : j = k := by omega
      subst e
      have c1 : ¬ (j : Int) < (j : Int) := by omega
      go_wp2
      exact bodyPost_end (results_none rfl _ _ _) rfl ⟨rfl, u, unhide HW, unhide HB⟩

theorem lek_mod (n : Nat) : Sp.lek (n % 4294967296) 4 = Sp.lek n 4 := by
  have h0 : n % 4294967296 / 256 ^ 0 % 256 = n / 256 ^ 0 % 256 := by omega
  have h1 : n % 4294967296 / 256 ^ 1 % 256 = n / 256 ^ 1 % 256 := by omega
  have h2 : n % 4294967296 / 256 ^ 2 % 256 = n / 256 ^ 2 % 256 := by omega
  have h3 : n % 4294967296 / 256 ^ 3 % 256 = n / 256 ^ 3 % 256 := by omega
  simp only [Sp.lek, h0, h1, h2, h3]
theorem str_u8s (l : List UInt8) : strOfNums (l.map fun b => (b.toNat : Int)) = ⟨l.toArray⟩ := by
  apply ByteArray.ext
  apply Array.toList_inj.1
  simp only [strOfNums, List.map_map]
  have : ((fun n : Int => UInt8.ofNat n.toNat) ∘ fun b : UInt8 => (b.toNat : Int)) = id := by funext b; simp
  rw [this]; simp
/-- What has been written, as a text. -/
theorem wri_text {w : World} {M n : Nat} {l : List UInt8} {v : Value} (h : Wri w M n l v) (h0 : 0 < n) : (convert 27 9 v).run Try.prog w = .ok (.string ⟨l.toArray⟩) w := by
  have hl : (u8s l).length = n * 1 := h.o.1
  simp only [u8s, List.length_map, Nat.mul_one] at hl
  rcases h.o.2 with ⟨_, h1⟩ | ⟨g, cap, cur, rfl, _⟩
  · omega
  · rw [← str_u8s]
    refine run_convert_bytes_arg _ 27 5 Try.underlying27 Try.underlying5 g 0 _ cap (l.map fun b => (b.toNat : Int)) (by simp only [List.length_map]; omega) (fun i hi => ?_) 9 Try.underlying9
    have hi2 : i < l.length := by omega
    have hx := h.o.cells (g := g) rfl i (.int .u8 ((l.map fun b => (b.toNat : Int)).getD i 0)) (by
      simp only [u8s]
      rw [List.getElem?_map, List.getD_eq_getElem?_getD, List.getElem?_map, List.getElem?_eq_getElem hi2]; rfl)
    rw [Nat.zero_add]
    have ha : (⟨g, 0, none⟩ : Addr).add i = ⟨g, i, none⟩ := by
      by_cases h0 : i = 0
      · subst h0; simp [Addr.add]
      · simp [Addr.add, h0]
    rw [ha] at hx
    exact hx
theorem Wri.new {w : World} : Wri (w.alloc (.cells #[.slice none 0 0] 86)) w.heap.size 0 [] (.slice none 0 0) :=
  ⟨by simp, by simp, World.ownsRow_nil _ _ _ _⟩
set_option maxHeartbeats 1000000 in
theorem text_any (M n : Nat) (l : List UInt8) (v : Value) (w : World) (h : Wri w M n l v) (h0 : 0 < n) : Calls Try.prog 63 #[.pointer (some ⟨M, 0, none⟩)] w fun e w' => e = .returned (.string ⟨l.toArray⟩) ∧ w' = w := by
  have c0 := h.c
  have hcv := wri_text h h0
  go_enter Try.func63, Try.ntmps63
  go_wp2
  go_ret
  exact ⟨rfl, rfl⟩
theorem head_str (p : ByteArray) : (⟨([] ++ Sp.lek (p.size) 4 ++ Sp.lek (Sp.crc p) 4).toArray⟩ : ByteArray) = Sp.headB p := by
  apply ByteArray.ext
  unfold Sp.headB
  rw [ByteArray.data_append]
  apply Array.toList_inj.1
  rw [Array.toList_append]
  show (([] ++ Sp.lek (p.size) 4 ++ Sp.lek (Sp.crc p) 4).toArray).toList = Sp.lek p.size 4 ++ Sp.lek (Sp.crc p) 4
  simp

set_option maxHeartbeats 1000000 in
theorem head_any (p : ByteArray) (w : World) (hp : p.size < 140737488355328) : Calls Try.prog 43 #[.string p] w fun e w' => e = .returned (.string (Sp.headB p)) ∧ Below w.heap.size w w' := by
  have hc := Sp.crc_lt p
  rw [← head_str]
  go_enter Try.func43, Try.ntmps43
  go_wp2_with fail
  refine (put_any w.heap.size p.size 4 0 [] _ _ Wri.new (by omega) (by omega) (by omega)).mono ?_
  rintro e w1 ⟨rfl, v1, hw1, hb1⟩
  replace hb1 := ((Below.refl w.heap.size w).alloc (Nat.le_refl _) _).trans hb1
  go_wp2_with fail
  refine (sum_any p _ (by omega)).mono ?_
  rintro e w2 ⟨rfl, rfl⟩
  go_wp2_with fail
  refine (put_any w.heap.size (Sp.crc p) 4 _ _ _ _ hw1 (by omega) (by omega) (by omega)).mono ?_
  rintro e w3 ⟨rfl, v3, hw3, hb3⟩
  replace hb3 := hb1.trans hb3
  clear hw1 hb1
  go_wp2_with fail
  refine (text_any w.heap.size _ _ _ _ hw3 (by omega)).mono ?_
  rintro e w4 ⟨rfl, rfl⟩
  clear hw3
  go_wp2
  go_ret
  exact ⟨rfl, hb3⟩

set_option maxHeartbeats 1000000 in
theorem sseal_any (p : ByteArray) (w : World) (hp : p.size < 140737488355328) : Calls Try.prog 27 #[.string p] w fun e w' => e = .returned (.string (Sp.sealB p)) ∧ Below w.heap.size w w' := by
  have z1 := Nat.le_of_eq (Sp.headB_size p)
  go_enter Try.func27, Try.ntmps27
  go_wp2_with fail
  refine (head_any p _ hp).mono ?_
  rintro e w1 ⟨rfl, hb1⟩
  go_wp2
  go_ret
  exact ⟨rfl, hb1⟩
set_option maxHeartbeats 1000000 in
theorem seal_any (p : ByteArray) (w : World) (hp : p.size < 140737488355328) : Calls Try.prog 10 #[.string p] w fun e w' => e = .returned (.string (Sp.sealB p)) ∧ Below w.heap.size w w' := by
  go_enter Try.func10, Try.ntmps10
  go_wp2_with fail
  refine (sseal_any p _ hp).mono ?_
  rintro e w1 ⟨rfl, hb1⟩
  go_wp2
  go_ret
  exact ⟨rfl, hb1⟩
set_option maxHeartbeats 1000000 in
theorem clone_any (p : ByteArray) (w : World) (hp : p.size ≤ 140737488355328) : Calls Try.prog 44 #[.string p] w fun e w' => e = .returned (.string p) ∧ Below w.heap.size w w' := by
  go_enter Try.func44, Try.ntmps44
  go_wp2_with fail
  refine (Try.stringslite_Clone p _ (by omega)).mono ?_
  rintro e w1 ⟨rfl, hb1⟩
  go_wp2
  go_ret
  exact ⟨rfl, hb1⟩

theorem ba_ne {a b : ByteArray} (h : ¬ a = b) : (a.toList == b.toList) = false := by
  apply Bool.eq_false_iff.2
  intro hh
  have h1 := eq_of_beq hh
  rw [ByteArray.toList_eq, ByteArray.toList_eq] at h1
  exact h (ByteArray.ext (Array.toList_inj.1 h1))
theorem ba_eq {a b : ByteArray} (h : a = b) : (a.toList == b.toList) = true := by subst h; simp

set_option maxHeartbeats 1000000 in
theorem sopen_any (s : ByteArray) (w : World) (hs : s.size ≤ 140737488355328) : Calls Try.prog 28 #[.string s] w fun e w' => e = .returned (.tuple #[.string (Sp.openB s), .bool (Sp.okB s)]) ∧ Below w.heap.size w w' := by
  by_cases c : s.size < 8
  · have c1 : (s.size : Int) < 8 := by omega
    have h1 := Sp.okB_short c
    rw [Sp.openB_f h1, h1]
    clear h1 c
    go_enter Try.func28, Try.ntmps28
    go_wp2
    go_ret2
    exact ⟨rfl, Below.refl _ _⟩
  · have c1 : ¬ (s.size : Int) < 8 := by omega
    have hk := Sp.okB_iff (s := s) (by omega)
    have hpz : (s.extract 8 s.size).size < 140737488355328 := by rw [ByteArray.size_extract]; omega
    have rh := fun w => head_any (s.extract 8 s.size) w hpz
    have rc := fun w => clone_any (s.extract 8 s.size) w (by omega)
    by_cases q : s.extract 0 8 = Sp.headB (s.extract 8 s.size)
    · have h1 : Sp.okB s = true := hk.2 q
      rw [h1, Sp.openB_t h1]
      have t1 := ba_eq q
      clear hk h1 q hpz
      go_enter Try.func28, Try.ntmps28
      go_wp2_with fail
      go_region_with (go_at_call 43; refine (rh _).mono ?_; rintro e w1 ⟨rfl, hb1⟩)
      have hb1 : Below w.heap.size w w1 := (Below.refl w.heap.size w).drew.trans hb1
      go_wp2_with fail
      refine (rc _).mono ?_
      rintro e w2 ⟨rfl, hb2⟩
      go_wp2
      go_ret2
      exact ⟨rfl, hb1.trans (hb2.mono hb1.size)⟩
    · have h1 : Sp.okB s = false := Bool.eq_false_iff.2 (fun h => q (hk.1 h))
      rw [h1, Sp.openB_f h1]
      have t1 := ba_ne q
      clear hk h1 q hpz rc
      go_enter Try.func28, Try.ntmps28
      go_wp2_with fail
      go_region_with (go_at_call 43; refine (rh _).mono ?_; rintro e w1 ⟨rfl, hb1⟩)
      have hb1 : Below w.heap.size w w1 := (Below.refl w.heap.size w).drew.trans hb1
      go_wp2
      go_ret2
      exact ⟨rfl, hb1⟩
set_option maxHeartbeats 1000000 in
theorem open_any (s : ByteArray) (w : World) (hs : s.size ≤ 140737488355328) : Calls Try.prog 11 #[.string s] w fun e w' => e = .returned (.tuple #[.string (Sp.openB s), .bool (Sp.okB s)]) ∧ Below w.heap.size w w' := by
  go_enter Try.func11, Try.ntmps11
  go_wp2_with fail
  refine (sopen_any s _ hs).mono ?_
  rintro e w1 ⟨rfl, hb1⟩
  go_wp2
  go_ret2
  exact ⟨rfl, hb1⟩
end Go.Proofs.Yteflnddphpjahaa
