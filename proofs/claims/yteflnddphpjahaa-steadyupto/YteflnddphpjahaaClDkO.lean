import Derived.Test.YteflnddphpjahaaClDkN
/-
  A disk: the operations that change nothing; the face's Rename and Remove.
-/
set_option linter.unusedVariables false
set_option linter.unusedSimpArgs false
set_option maxRecDepth 100000
namespace Go.Proofs.Yteflnddphpjahaa.Dk
open Go.RowKit

theorem has_none {T : Sd.Tb} (hT : Sd.tsorted T) {y : ByteArray} (hf : Sd.tget T y = none) : Sd.thas T y = false := by
  cases hq : Sd.thas T y with
  | false => rfl
  | true => obtain ⟨_, _, e2⟩ := Sd.tget_at hT hq; rw [hf] at e2; cases e2
set_option maxHeartbeats 1000000 in
theorem sync_none (B D : Nat) (s : Sk) (F : Nat → Fl) (vn vs vc : Value) (l : Int) (vb : Nat → Value) (y : ByteArray) (w : World) (h : DiskAt w B D s F vn vs vc l vb) (hl2 : s.names.length ≤ 100000) (hf : Sd.tget s.names y = none) :
    Calls Try.prog 34 #[.pointer (some ⟨D, 0, none⟩), .string y] w fun e w' => e = .returned (.int .i64 11) ∧ Below w.heap.size w w' := by
  have hon := operatesOn_any B D s F vn vs vc l vb y w h hl2
  rw [hf, has_none h.sn hf] at hon
  have e0 : onErr false = 11 := rfl
  rw [e0] at hon
  unfold optPtr at hon
  clear h hf e0
  go_enter Try.func34, Try.ntmps34
  go_wp2_with fail
  refine hon.mono ?_
  rintro e w1 ⟨rfl, hb1⟩
  go_wp2
  go_ret
  exact ⟨rfl, hb1⟩
set_option maxHeartbeats 1000000 in
theorem append_none (B D : Nat) (s : Sk) (F : Nat → Fl) (vn vs vc : Value) (l : Int) (vb : Nat → Value) (y t : ByteArray) (w : World) (h : DiskAt w B D s F vn vs vc l vb) (hl2 : s.names.length ≤ 100000) (hf : Sd.tget s.names y = none) :
    Calls Try.prog 33 #[.pointer (some ⟨D, 0, none⟩), .string y, .string t] w fun e w' => e = .returned (.int .i64 11) ∧ Below w.heap.size w w' := by
  have hon := operatesOn_any B D s F vn vs vc l vb y w h hl2
  rw [hf, has_none h.sn hf] at hon
  have e0 : onErr false = 11 := rfl
  rw [e0] at hon
  unfold optPtr at hon
  clear h hf e0
  go_enter Try.func33, Try.ntmps33
  go_wp2_with fail
  refine hon.mono ?_
  rintro e w1 ⟨rfl, hb1⟩
  go_wp2
  go_ret
  exact ⟨rfl, hb1⟩
set_option maxHeartbeats 1000000 in
theorem rename_none (B D : Nat) (s : Sk) (F : Nat → Fl) (vn vs vc : Value) (l : Int) (vb : Nat → Value) (x y : ByteArray) (w : World) (h : DiskAt w B D s F vn vs vc l vb) (hl2 : s.names.length ≤ 100000) (hy : Letter y) (hf : Sd.tget s.names x = none) :
    Calls Try.prog 45 #[.pointer (some ⟨D, 0, none⟩), .string x, .string y] w fun e w' => e = .returned (.int .i64 11) ∧ Below w.heap.size w w' := by
  have hop := operates_any D s.quota vn vs vc l w h.blk
  have hget := get_any D 1 _ _ vn s.names x w (h.tabN hl2)
  rw [hf, has_none h.sn hf] at hget
  unfold optPtr at hget
  clear h hf
  go_enter Try.func45, Try.ntmps45
  go_wp2_with fail
  refine hop.mono ?_
  rintro e w0 ⟨rfl, rfl⟩
  go_wp2_with fail
  refine (isName_any y _ hy).mono ?_
  rintro e w0' ⟨rfl, hw0⟩
  obtain rfl := hw0.symm
  go_wp2_with fail
  refine hget.mono ?_
  rintro e w1 ⟨rfl, hb1⟩
  go_wp2
  go_ret
  exact ⟨rfl, hb1⟩
set_option maxHeartbeats 1000000 in
theorem rename_same (B D : Nat) (s : Sk) (F : Nat → Fl) (vn vs vc : Value) (l : Int) (vb : Nat → Value) (x : ByteArray) (f : Nat) (w : World) (h : DiskAt w B D s F vn vs vc l vb) (hl2 : s.names.length ≤ 100000) (hx : Letter x) (hf : Sd.tget s.names x = some f) :
    Calls Try.prog 45 #[.pointer (some ⟨D, 0, none⟩), .string x, .string x] w fun e w' => e = .returned (.int .i64 0) ∧ Below w.heap.size w w' := by
  have hop := operates_any D s.quota vn vs vc l w h.blk
  have hget := get_any D 1 _ _ vn s.names x w (h.tabN hl2)
  have hth : Sd.thas s.names x = true := Sd.thas_mem.2 ⟨f, (Sd.tget_mem h.sn).1 hf⟩
  rw [hf, hth] at hget
  unfold optPtr fptr at hget
  have heq : (x.toList == x.toList) = true := ba_eq rfl
  clear h hf hth
  go_enter Try.func45, Try.ntmps45
  go_wp2_with fail
  refine hop.mono ?_
  rintro e w0 ⟨rfl, rfl⟩
  go_wp2_with fail
  refine (isName_any x _ hx).mono ?_
  rintro e w0' ⟨rfl, hw0⟩
  obtain rfl := hw0.symm
  go_wp2_with fail
  refine hget.mono ?_
  rintro e w1 ⟨rfl, hb1⟩
  go_wp2
  go_ret
  exact ⟨rfl, hb1⟩

/-- The face's calls hand on what lies beneath. -/
theorem face_remove (D : Nat) (y : ByteArray) (w : World) (R : Ending → World → Prop) (h : Calls Try.prog 46 #[.pointer (some ⟨D, 0, none⟩), .string y] w fun e w' => ∃ n, e = .returned (.int .i64 n) ∧ R e w') :
    Calls Try.prog 31 #[.pointer (some ⟨D, 0, none⟩), .string y] w R := by
  go_enter Try.func31, Try.ntmps31
  go_wp2_with fail
  refine h.mono ?_
  rintro e w1 ⟨n, rfl, hr⟩
  have H := hide hr
  clear hr h
  go_wp2
  exact unhide H
theorem face_rename (D : Nat) (x y : ByteArray) (w : World) (R : Ending → World → Prop) (h : Calls Try.prog 45 #[.pointer (some ⟨D, 0, none⟩), .string x, .string y] w fun e w' => ∃ n, e = .returned (.int .i64 n) ∧ R e w') :
    Calls Try.prog 30 #[.pointer (some ⟨D, 0, none⟩), .string x, .string y] w R := by
  go_enter Try.func30, Try.ntmps30
  go_wp2_with fail
  refine h.mono ?_
  rintro e w1 ⟨n, rfl, hr⟩
  have H := hide hr
  clear hr h
  go_wp2
  exact unhide H
theorem face_append (D : Nat) (x y : ByteArray) (w : World) (R : Ending → World → Prop) (h : Calls Try.prog 33 #[.pointer (some ⟨D, 0, none⟩), .string x, .string y] w fun e w' => ∃ n, e = .returned (.int .i64 n) ∧ R e w') :
    Calls Try.prog 16 #[.pointer (some ⟨D, 0, none⟩), .string x, .string y] w R := by
  go_enter Try.func16, Try.ntmps16
  go_wp2_with fail
  refine h.mono ?_
  rintro e w1 ⟨n, rfl, hr⟩
  have H := hide hr
  clear hr h
  go_wp2
  exact unhide H
theorem face_sync (D : Nat) (x : ByteArray) (w : World) (R : Ending → World → Prop) (h : Calls Try.prog 34 #[.pointer (some ⟨D, 0, none⟩), .string x] w fun e w' => ∃ n, e = .returned (.int .i64 n) ∧ R e w') :
    Calls Try.prog 17 #[.pointer (some ⟨D, 0, none⟩), .string x] w R := by
  go_enter Try.func17, Try.ntmps17
  go_wp2_with fail
  refine h.mono ?_
  rintro e w1 ⟨n, rfl, hr⟩
  have H := hide hr
  clear hr h
  go_wp2
  exact unhide H
end Go.Proofs.Yteflnddphpjahaa.Dk
