import Derived.Test.YteflnddphpjahaaDoorProg
import Derived.Test.YteflnddphpjahaaDoorClPlAtoPlI
import Derived.Test.YteflnddphpjahaaDoorClRefBtoRefD
import Derived.Test.YteflnddphpjahaaDoorClRefE
import Derived.WalkKit
import Derived.Outline
import Derived.Deep.DeepMust
/-
  The walk of strideref's Read.
-/
set_option linter.unusedVariables false
set_option linter.unusedSimpArgs false
set_option maxRecDepth 100000
namespace Go.Proofs.YteflnddphpjahaaDoor
open Go.RowKit

theorem Tryd.info_line : (Tryd.prog.info? 79).map (fun i => (i.zero, i.size, i.bytes)) = some (some (.agg #[.bool false, .int .i64 0, .int .i64 0, .int .i64 0]), 4, 32) := by kernel_rfl
theorem Tryd.info_int : (Tryd.prog.info? 3).map (fun i => (i.zero, i.size, i.bytes)) = some (some (.int .i64 0), 1, 8) := by kernel_rfl

theorem own_form {w : World} {B e size n : Nat} {v : Value} {xs : List Value} (h : w.ownsRow B e size v n xs) (hn : 0 < n) : ∃ g cap, v = .slice (some ⟨g, 0, none⟩) n cap := by
  rcases h.2 with ⟨_, h0⟩ | ⟨g, cap, cur, hv, _⟩
  · omega
  · exact ⟨g, cap, hv⟩
/-- A line's cells; many lines' cells. -/
def lnCells (l : Sp.Ln) : List Value := [.bool l.edge, .int .i64 l.frm, .int .i64 l.to, .int .i64 l.n]
def lnsCells (L : List Sp.Ln) : List Value := L.flatMap lnCells

def numCells (A : List Nat) : List Value := A.map fun k : Nat => Value.int .i64 (k : Int)

/-- What Read answers. -/
def ReadsPost (s : ByteArray) (w : World) (e : Ending) (w' : World) : Prop :=
  Below w.heap.size w w' ∧
  match Sp.readSpec s with
  | .error (a, b) => e = .returned (.tuple #[.slice none 0 0, .slice none 0 0, .int .i64 a, .int .i64 b])
  | .ok (L, A) => ∃ v u, e = .returned (.tuple #[v, u, .int .i64 0, .int .i64 0]) ∧ w'.ownsRow w.heap.size 79 4 v L.length (lnsCells L) ∧ w'.ownsRow w.heap.size 3 1 u A.length (numCells A)

theorem reads_err {s : ByteArray} {w w' : World} {a b : Int} (h : Sp.readSpec s = .error (a, b)) (hb : Below w.heap.size w w') :
    ReadsPost s w (.returned (.tuple #[.slice none 0 0, .slice none 0 0, .int .i64 a, .int .i64 b])) w' := by
  refine ⟨hb, ?_⟩; rw [h]

theorem reads_ok {s : ByteArray} {w w' : World} {L : List Sp.Ln} {A : List Nat} {v u : Value} (h : Sp.readSpec s = .ok (L, A)) (hb : Below w.heap.size w w')
    (hv : w'.ownsRow w.heap.size 79 4 v L.length (lnsCells L)) (hu : w'.ownsRow w.heap.size 3 1 u A.length (numCells A)) :
    ReadsPost s w (.returned (.tuple #[v, u, .int .i64 0, .int .i64 0])) w' := by
  refine ⟨hb, ?_⟩; rw [h]; exact ⟨v, u, rfl, hv, hu⟩

set_option maxHeartbeats 400000 in
theorem read_long (s : ByteArray) (w : World) (hm : s.size ≤ maxLen) (hs : 4000 < s.size) : Calls Tryd.prog 24 #[.string s] w (ReadsPost s w) := by
  have HL : Hid (Sp.readSpec s = .error (1, 0)) := if_pos hs
  have g : 4000 < ((s.size : Nat) : Int) := by omega
  unfold maxLen at hm
  go_enter Tryd.func24, Tryd.ntmps24
  go_wp2
  exact bodyPost_ret (v := .tuple #[.slice none 0 0, .slice none 0 0, .int .i64 1, .int .i64 0]) (by simp [results, Tryd.results24, go_sem]) rfl (reads_err (unhide HL) (Below.refl _ _))

set_option maxHeartbeats 400000 in
theorem read_broken (s : ByteArray) (w : World) (hs : s.size ≤ 4000) (i : Nat) (hb : Sp.bad s = some i) : Calls Tryd.prog 24 #[.string s] w (ReadsPost s w) := by
  have HL : Hid (Sp.readSpec s = .error (2, (i : Int))) := by
    show _ = _; unfold Sp.readSpec; rw [if_neg (by omega), hb]
  have g : ((s.size : Nat) : Int) ≤ 4000 := by omega
  have HB : Hid (Sp.badInt (Sp.bad s) = (i : Int)) := by show _ = _; rw [hb]; rfl
  clear hb
  go_enter Tryd.func24, Tryd.ntmps24
  go_wp2_with (go_at_call 43; refine (broken_any s _ hs).mono ?_; rintro e w' ⟨rfl, rfl⟩; rw [unhide HB])
  exact bodyPost_ret (v := .tuple #[.slice none 0 0, .slice none 0 0, .int .i64 2, .int .i64 i]) (by simp [results, Tryd.results24, go_sem]) rfl (reads_err (unhide HL) (Below.refl _ _))

set_option maxHeartbeats 1000000 in
theorem read_lines (s : ByteArray) (w : World) (hs : s.size ≤ 4000) (hb : Sp.bad s = none) : Calls Tryd.prog 24 #[.string s] w (ReadsPost s w) := by
  have HL : Hid (Sp.readSpec s = Sp.rdFrom (Sp.split s 10) 0 [] []) := by
    show _ = _; unfold Sp.readSpec; rw [if_neg (by omega), hb]
  have g : ((s.size : Nat) : Int) ≤ 4000 := by omega
  have HB : Hid (Sp.badInt (Sp.bad s) = -1) := by show _ = _; rw [hb]; rfl
  clear hb
  obtain ⟨i0, hi, hz0, hz1, hz2⟩ := info_parts Tryd.info_line
  obtain ⟨i1, hi1, hy0, hy1, hy2⟩ := info_parts Tryd.info_int
  have hlen := Sp.split_len s 10
  have HS := hide (Sp.split_size s 10)
  generalize hls : Sp.split s 10 = ls at hlen HS HL
  have HLS := hide hls
  clear hls
  go_enter Tryd.func24, Tryd.ntmps24
  go_wp2_with fail
  refine (broken_any s _ hs).mono ?_
  rintro e w ⟨rfl, rfl⟩
  rw [unhide HB]
  go_wp2_with fail
  refine (split_any s 10 _ rfl (by omega) _ hs).mono ?_
  rintro e w1 ⟨V, rfl, hV, hbV⟩
  rw [unhide HLS] at hV
  obtain ⟨g0, cap0, rfl⟩ := own_form hV hlen.1
  go_wp2_with fail
  go_loopw [7, 8, 10] (fun l a i wr => ∃ (k : Nat) (L : List Sp.Ln) (A : List Nat), k ≤ ls.length ∧ L.length ≤ k ∧ A.length ≤ k ∧ i = .int .i64 k ∧ wr.ownsRow w.heap.size 79 4 l L.length (lnsCells L) ∧ wr.ownsRow w.heap.size 3 1 a A.length (numCells A) ∧
      wr.ownsRow w.heap.size 9 1 (.slice (some ⟨g0, 0, none⟩) ls.length cap0) ls.length (ls.map Value.string) ∧ Below w.heap.size w wr ∧ Hid (Sp.rdFrom (ls.drop k) k L A = Sp.rdFrom ls 0 [] []))
    (fun _ _ i _ => ls.length - (intOf i).toNat)
  case atStart => exact ⟨0, [], [], Nat.zero_le _, Nat.zero_le _, Nat.zero_le _, rfl, World.ownsRow_nil _ _ _ _, World.ownsRow_nil _ _ _ _, hV, hbV, rfl⟩
  case round =>
    obtain ⟨k, L, A, hk, hLk, hAk, rfl, hl, ha, hv, hbw, HR⟩ := hrel
    by_cases hlt : k < ls.length
    · have hcx : wr.cell? ⟨g0, k, none⟩ = some (.string ls[k]) := by
        rw [hv.cellAt k (by omega)]; simp [hlt]
      have hxs : (ls[k]).size ≤ 4000 := by have := (unhide HS) ls[k] (List.getElem_mem hlt); omega
      generalize hx : ls[k] = x at hcx hxs
      have HX := hide hx
      clear hx
      by_cases he : x.size = 0
      · have hxe : x.toList.isEmpty = true := by rw [ByteArray.toList_eq, nil_of (by omega)]; rfl
        go_wp2
        go_roundw
        case rel => exact ⟨k + 1, L, A, by omega, by omega, by omega, by go_num, hl, ha, hv, hbw, by show _ = _; rw [← unhide HR]; exact (Sp.rd_empty hlt L A (by rw [unhide HX]; exact he)).symm⟩
        case measure => simp [intOf]; omega
      · have hxe : x.toList.isEmpty = false := by
          rw [ByteArray.toList_eq]
          cases hq : x.data.toList with
          | nil => exact absurd hq (ne_nil (by omega))
          | cons _ _ => rfl
        cases hln : Sp.lineOf x with
        | none =>
          have HN := hide hln
          clear hln
          go_wp2_with fail
          refine (read_any x _ hxs).mono ?_
          rintro e w2 ⟨l, rfl, _, hb2⟩
          rw [unhide HN]
          unfold lnVal
          go_wp2
          exact bodyPost_ret (v := .tuple #[.slice none 0 0, .slice none 0 0, .int .i64 3, .int .i64 k]) (by simp [results, Tryd.results24, go_sem]) rfl (reads_err (by rw [unhide HL, ← unhide HR]; exact Sp.rd_none hlt L A (by rw [unhide HX]; exact he) (by rw [unhide HX]; exact unhide HN)) ((hbw.trans (hb2.mono hbw.size)).alloc (Nat.le_trans hbw.size hb2.size) _))
        | some l =>
          have HN := hide hln
          clear hln
          go_wp2_with fail
          refine (read_any x _ hxs).mono ?_
          rintro e w2 ⟨l', rfl, hll, hb2⟩
          obtain rfl : l' = l := hll l (unhide HN)
          rw [unhide HN]
          clear hll
          unfold lnVal
          have hl2 := own_below hl hb2
          have ha2 := own_below ha hb2
          have hv2 := own_below hv hb2
          have hbw2 := hbw.trans (hb2.mono hbw.size)
          have hB2 := hbw2.size
          clear hl ha hv hcx hb2
          go_wp2_with (first
            | (at_builtin; go_must (refine wpList_append_own _ rfl (.tmp 45) (.tmp 47) 73 rfl w.heap.size 79 i0 _ 4 32 Tryd.underlying73 hi hz0 hz1 hz2 rfl (by decide) _ _ _ rfl ((hl2.alloc _).alloc _) ⟨w2.heap.size + 1, 0, none⟩ 1 1 (lnCells l') rfl rfl ?c1 ?c2 ?c3 ?c4 ?c5 ?_))
            | go_in)
          case c1 =>
            intro j u hj
            match j, hj with
            | 0, hj => simp [lnCells] at hj; subst hj; simp [Addr.add]
            | 1, hj => simp [lnCells] at hj; subst hj; simp [Addr.add]
            | 2, hj => simp [lnCells] at hj; subst hj; simp [Addr.add]
            | 3, hj => simp [lnCells] at hj; subst hj; simp [Addr.add]
            | j + 4, hj => simp [lnCells] at hj
          case c2 => intro u hu; simp [lnCells] at hu; rcases hu with rfl | rfl | rfl | rfl <;> rfl
          case c3 => unfold maxLen; omega
          case c4 => omega
          case c5 => simp; omega
          intro v3 w3 hl3 hg3 _
          have hbw3 := rel_app (ys := []) (v' := v3) (by simp; omega) ((hl2.alloc _).alloc _) ((hbw2.alloc hB2 _).alloc (by simp; omega) _) hg3
          have ha3 := own_app ((hl2.alloc _).alloc _) ((ha2.alloc _).alloc _) (by decide) hg3
          have hv3 := own_app ((hl2.alloc _).alloc _) ((hv2.alloc _).alloc _) (by decide) hg3
          have hB3 := hbw3.size
          clear hg3 hl2 ha2 hv2 hbw2
          go_wp2_with (first
            | (at_builtin; go_must (refine wpList_append_own _ rfl (.tmp 49) (.tmp 51) 32 rfl w.heap.size 3 i1 _ 1 8 Tryd.underlying32 hi1 hy0 hy1 hy2 rfl (by decide) _ _ _ rfl (ha3.alloc _) ⟨w3.heap.size, 0, none⟩ 1 1 [.int .i64 (k : Int)] rfl rfl ?d1 ?d2 ?d3 ?d4 ?d5 ?_))
            | go_in)
          case d1 =>
            intro j u hj
            match j, hj with
            | 0, hj => simp at hj; subst hj; simp [Addr.add]
          case d2 => intro u hu; simp at hu; subst hu; rfl
          case d3 => unfold maxLen; omega
          case d4 => omega
          case d5 => simp; omega
          intro v4 w4 ha4 hg4 _
          have hbw4 := rel_app (ys := []) (v' := v4) (by simp; omega) (ha3.alloc _) (hbw3.alloc hB3 _) hg4
          have hl4 := own_app (ha3.alloc _) (hl3.alloc _) (by decide) hg4
          have hv4 := own_app (ha3.alloc _) (hv3.alloc _) (by decide) hg4
          clear hg4 hl3 ha3 hv3 hbw3
          go_wp2
          go_roundw
          case rel =>
            exact ⟨k + 1, L ++ [l'], A ++ [k], by omega, by simp; omega, by simp; omega, by go_num, by simpa [lnsCells, List.flatMap_append] using hl4, by simpa [numCells] using ha4, hv4, hbw4, by
              show _ = _; rw [← unhide HR]; exact (Sp.rd_some hlt L A (by rw [unhide HX]; exact he) (by rw [unhide HX]; exact unhide HN)).symm⟩
          case measure => simp [intOf]; omega
    · go_wp2
      refine bodyPost_ret (v := .tuple #[_, _, .int .i64 0, .int .i64 0]) (by simp [results, Tryd.results24, go_sem]) rfl (reads_ok (L := L) (A := A) ?_ hbw hl ha)
      rw [unhide HL, ← unhide HR]
      exact Sp.rd_end (by omega) L A
end Go.Proofs.YteflnddphpjahaaDoor
/-
  The walks of strideref's vertex and place.
-/
set_option linter.unusedVariables false
set_option linter.unusedSimpArgs false
set_option maxRecDepth 100000
namespace Go.Proofs.YteflnddphpjahaaDoor
open Go.RowKit

theorem reads_any (s : ByteArray) (w : World) (hs : s.size ≤ maxLen) : Calls Tryd.prog 24 #[.string s] w (ReadsPost s w) := by
  by_cases h : 4000 < s.size
  · exact read_long s w hs h
  · cases hb : Sp.bad s with
    | none => exact read_lines s w (by omega) hb
    | some i => exact read_broken s w (by omega) i hb

/-- The lines lie in memory. -/
def LinesAt (w : World) (p : Option Addr) (L : List Sp.Ln) : Prop :=
  ∀ k (h : k < L.length), ∃ g, p = some ⟨g, 0, none⟩ ∧ w.cell? ⟨g, k * 4, none⟩ = some (.bool L[k].edge) ∧ w.cell? ⟨g, k * 4 + 1, none⟩ = some (.int .i64 L[k].frm) ∧ w.cell? ⟨g, k * 4 + 2, none⟩ = some (.int .i64 L[k].to) ∧ w.cell? ⟨g, k * 4 + 3, none⟩ = some (.int .i64 L[k].n)

set_option maxHeartbeats 1000000 in
theorem vertex_any (p : Option Addr) (cap : Nat) (L : List Sp.Ln) (n : Nat) (m : Int) (hm : m = (n : Int)) (a : Int) (w : World) (hn : n ≤ L.length) (hL : L.length ≤ 5000) (hc : LinesAt w p L) :
    Calls Tryd.prog 45 #[.slice p L.length cap, .int .i64 m, .int .i64 a] w fun e w' => ∃ r : Int, e = .returned (.int .i64 r) ∧ w' = w ∧ (0 ≤ r ↔ Sp.hasV L n a = true) := by
  subst hm
  go_enter Tryd.func45, Tryd.ntmps45
  go_wp2
  go_loop [7] (fun i => ∃ k : Nat, k ≤ n ∧ i = .int .i64 k ∧ Hid (Sp.hasV L k a = false)) (fun i => n - (intOf i).toNat)
  case atStart => exact ⟨0, Nat.zero_le _, rfl, Sp.hasV_zero L a⟩
  case round =>
    obtain ⟨k, hk, rfl, HV⟩ := hrel
    by_cases hlt : k < n
    · have hkL : k < L.length := by omega
      obtain ⟨g, rfl, c0, c1, _, _⟩ := hc k hkL
      by_cases he : L[k].edge = true
      · have HN : Hid (Sp.hasV L (k + 1) a = false) := Sp.hasV_next hkL (unhide HV) (by simp [Sp.isV, he])
        go_wp2
        go_round
        case rel => exact ⟨k + 1, by omega, by go_num, HN⟩
        case measure => simp [intOf]; omega
      · have he' : L[k].edge = false := by simpa using he
        by_cases hf : L[k].frm = a
        · have HN : Hid (Sp.hasV L n a = true) := Sp.hasV_yes hkL hlt (by simp [Sp.isV, he', hf])
          have hf' : (L[k].frm == a) = true := beq_iff_eq.2 hf
          clear hf
          go_wp2
          go_ret
          exact ⟨_, rfl, rfl, ⟨fun _ => unhide HN, fun _ => by omega⟩⟩
        · have HN : Hid (Sp.hasV L (k + 1) a = false) := Sp.hasV_next hkL (unhide HV) (by simp [Sp.isV, he', hf])
          have hf' : (L[k].frm == a) = false := beq_eq_false_iff_ne.2 hf
          go_wp2
          go_round
          case rel => exact ⟨k + 1, by omega, by go_num, HN⟩
          case measure => simp [intOf]; omega
    · obtain rfl : k = n := by omega
      go_wp2
      go_ret
      exact ⟨_, rfl, rfl, ⟨fun h => by omega, fun h => by rw [unhide HV] at h; cases h⟩⟩

set_option maxHeartbeats 1000000 in
theorem place_any (p : Option Addr) (cap : Nat) (L : List Sp.Ln) (a : Int) (w : World) (hL : L.length ≤ 5000) (hc : LinesAt w p L) :
    Calls Tryd.prog 26 #[.slice p L.length cap, .int .i64 a] w fun e w' => e = .returned (.int .i64 (Sp.low L a)) ∧ w' = w := by
  go_enter Tryd.func26, Tryd.ntmps26
  go_wp2
  go_loop [5, 6] (fun c i => ∃ k m : Nat, k ≤ L.length ∧ m ≤ k ∧ i = .int .i64 k ∧ c = .int .i64 m ∧ Hid (m = Sp.lowTo L a k)) (fun _ i => L.length - (intOf i).toNat)
  case atStart => exact ⟨0, 0, Nat.zero_le _, Nat.zero_le _, rfl, rfl, (Sp.lowTo_zero L a).symm⟩
  case round =>
    obtain ⟨k, m, hk, hmk, rfl, rfl, HV⟩ := hrel
    by_cases hlt : k < L.length
    · obtain ⟨g, rfl, c0, c1, _, _⟩ := hc k hlt
      by_cases he : L[k].edge = true
      · have HN : Hid (m = Sp.lowTo L a (k + 1)) := by show _ = _; rw [Sp.lowTo_no hlt (by simp [Sp.isLow, he])]; exact unhide HV
        go_wp2
        go_round
        case rel => exact ⟨k + 1, m, by omega, by omega, by go_num, rfl, HN⟩
        case measure => simp [intOf]; omega
      · have he' : L[k].edge = false := by simpa using he
        by_cases hf : L[k].frm < a
        · have HN : Hid (m + 1 = Sp.lowTo L a (k + 1)) := by show _ = _; rw [Sp.lowTo_yes hlt (by simp [Sp.isLow, he', hf]), ← unhide HV]
          go_wp2
          go_round
          case rel => exact ⟨k + 1, m + 1, by omega, by omega, by go_num, by go_num, HN⟩
          case measure => simp [intOf]; omega
        · have HN : Hid (m = Sp.lowTo L a (k + 1)) := by show _ = _; rw [Sp.lowTo_no hlt (by simp [Sp.isLow, he', hf])]; exact unhide HV
          go_wp2
          go_round
          case rel => exact ⟨k + 1, m, by omega, by omega, by go_num, rfl, HN⟩
          case measure => simp [intOf]; omega
    · have HN : Hid (m = Sp.low L a) := by show _ = _; rw [unhide HV]; exact Sp.lowTo_all a (by omega)
      go_wp2
      go_ret
      exact ⟨by rw [unhide HN]; rfl, rfl⟩
end Go.Proofs.YteflnddphpjahaaDoor
