import Derived.Test.YteflnddphpjahaaDoorClLineAtoLineC
import Derived.Test.YteflnddphpjahaaDoorClPlJtoPlO
import Derived.Test.YteflnddphpjahaaDoorClShelf
import Derived.Test.YteflnddphpjahaaDoorClRefFtoRefG
import Derived.Laws.IdiomStrings
import Derived.Laws.OwnMore
import Derived.Deep.DeepMust
/-
  The program's lines: the walk of readLines.
-/
set_option linter.unusedVariables false
set_option linter.unusedSimpArgs false
set_option maxRecDepth 100000
namespace Go.Proofs.YteflnddphpjahaaDoor
open Go.RowKit

theorem Tryd.info_pline : (Tryd.prog.info? 130).map (fun i => (i.zero, i.size, i.bytes)) = some (some (.agg #[.int .i64 0, .int .i32 0, .int .i32 0, .int .i64 0]), 4, 24) := by kernel_rfl

/-- The cell that strings.Split reads: internal/bytealg.MaxLen. -/
def SplitOk (w : World) : Prop := ∃ m : Int, w.cell? ⟨6, 0, none⟩ = some (.int .i64 m)

theorem conv_runes (x : ByteArray) (w : World) (hx : x.size ≤ 4000) : ∃ cap C, (convert 9 36 (.string x)).run Tryd.prog w = .ok (.slice (some ⟨w.heap.size, 0, none⟩) (Sp.rs x 0).length cap) (w.drew.alloc (.cells C 21)) ∧
    (Sp.rs x 0).length ≤ cap ∧ cap ≤ maxLen ∧ IntsAt (w.drew.alloc (.cells C 21)) .i32 (some ⟨w.heap.size, 0, none⟩) (Sp.rs x 0) := by
  have hl := Sp.rs_len x _ 0 (Nat.le_refl _)
  have h := run_runes_of_string (P := Tryd.prog) w 9 36 21 x Tryd.underlying9 Tryd.underlying36 Tryd.underlying21 (by have := size_runesFrom x x.size 0 #[]; simp at this; omega)
  rw [Sp.runes_eq] at h
  have hz : ((Sp.rs x 0).map (Value.int .i32)).toArray.size = (Sp.rs x 0).length := by simp
  rw [hz] at h
  refine ⟨_, _, h, grownCap_ge _ _ _ _, grownCap_le_maxLen _ _ _ _ (by unfold maxLen; omega), ?_⟩
  intro j hj
  refine ⟨w.heap.size, rfl, by simp, ?_⟩
  refine (cell_of_row _ w.heap.size j _ 21 (0, 0) (heap_alloc_new w.drew _)).trans ?_
  rw [Array.getElem?_append_left (by simp; exact hj)]
  simp [hj]

/-- readLine at a word of the text, in the lines' own words. -/
theorem readLine_word (x : ByteArray) (p : Option Addr) (cap : Nat) (w : World) (hV : Sp.V x 0) (hx : x.size ≤ 4000) (h : IntsAt w .i32 p (Sp.rs x 0)) (hc : (Sp.rs x 0).length ≤ cap) (hcm : cap ≤ maxLen) :
    Calls Tryd.prog 52 #[.slice p (Sp.rs x 0).length cap] w fun e w' => Below w.heap.size w w' ∧ match Sp.plOf x with
      | some q => e = .returned (.tuple #[plVal (Sp.pk q) (Sp.pa q) (Sp.pb q) (Sp.pn q), .bool true])
      | none => ∃ k a b n : Int, e = .returned (.tuple #[plVal k a b n, .bool false]) := by
  have hl := Sp.rs_len x _ 0 (Nat.le_refl _)
  have hb := Sp.bytes_rs _ 0 (Nat.le_refl _) hV
  have hsz : (runesBytes (Sp.rs x 0)).size ≤ 4000 := by have := congrArg List.length hb; simp at this; omega
  refine (readLine_any p cap _ w h (by omega) hc hcm hsz (Sp.rs_bd x _ 0 (Nat.le_refl _))).mono ?_
  rintro e w' ⟨hbl, he⟩
  refine ⟨hbl, ?_⟩
  have hr := Sp.line_rs hV
  by_cases h0 : x.size = 0
  · rw [Sp.rs_empty.2 h0] at he
    have h1 : Sp.plOf x = some none := if_pos h0
    rw [h1]; exact he
  · have hne : Sp.rs x 0 ≠ [] := fun e => h0 (Sp.rs_empty.1 e)
    have h1 : Sp.plOf x = (Sp.lnOf (Sp.rs x 0)).map some := by unfold Sp.plOf; rw [if_neg h0, hr]
    rw [h1]
    cases hq : Sp.rs x 0 with
    | nil => exact absurd hq hne
    | cons a t =>
      rw [hq] at he
      simp only at he
      cases hln : Sp.lnOf (a :: t) with
      | none => rw [hln] at he; exact he
      | some l =>
        rw [hln] at he
        simp only at he
        rw [he]
        show _ = _
        unfold lnP
        cases hed : l.edge <;> simp [Sp.pk, Sp.pa, Sp.pb, Sp.pn, hed]

def plCells (p : Option Sp.Ln) : List Value := [.int .i64 (Sp.pk p), .int .i32 (Sp.pa p), .int .i32 (Sp.pb p), .int .i64 (Sp.pn p)]
def plsCells (P : List (Option Sp.Ln)) : List Value := P.flatMap plCells

/-- What readLines answers. -/
def LinesPost (s : ByteArray) (w : World) (e : Ending) (w' : World) : Prop :=
  Below w.heap.size w w' ∧
  match Sp.plFrom (Sp.split s 10) 0 [] with
  | .error k => e = .returned (.tuple #[.slice none 0 0, .int .i64 (k : Nat), .bool false])
  | .ok P => ∃ v, e = .returned (.tuple #[v, .int .i64 0, .bool true]) ∧ w'.ownsRow w.heap.size 130 4 v P.length (plsCells P)

theorem lines_err {s : ByteArray} {w w' : World} {k : Nat} (h : Sp.plFrom (Sp.split s 10) 0 [] = .error k) (hb : Below w.heap.size w w') :
    LinesPost s w (.returned (.tuple #[.slice none 0 0, .int .i64 (k : Nat), .bool false])) w' := by
  refine ⟨hb, ?_⟩; rw [h]
theorem lines_ok {s : ByteArray} {w w' : World} {P : List (Option Sp.Ln)} {v : Value} (h : Sp.plFrom (Sp.split s 10) 0 [] = .ok P) (hb : Below w.heap.size w w')
    (hv : w'.ownsRow w.heap.size 130 4 v P.length (plsCells P)) :
    LinesPost s w (.returned (.tuple #[v, .int .i64 0, .bool true])) w' := by
  refine ⟨hb, ?_⟩; rw [h]; exact ⟨v, rfl, hv⟩

set_option maxHeartbeats 1000000 in
theorem readLines_any (s : ByteArray) (w : World) (hs : s.size ≤ 4000) (hV : Sp.V s 0) (hg : SplitOk w) : Calls Tryd.prog 38 #[.string s] w (LinesPost s w) := by
  obtain ⟨m, hm⟩ := hg
  obtain ⟨i0, hi, hz0, hz1, hz2⟩ := info_parts Tryd.info_pline
  have HC : Hid (Calls Tryd.prog 47 #[.string s, .string ⟨#[10]⟩] w fun e w' => e = .returned (.slice (some ⟨w.heap.size, 0, none⟩) (Sp.split s 10).length (Sp.split s 10).length) ∧ w' = w.alloc (.cells ((Sp.split s 10).map Value.string).toArray 9)) := by
    have h := Tryd.strings_Split s ⟨#[10]⟩ m w (by omega) hm (by decide)
    rw [Sp.split_lib, Sp.split_count] at h
    exact h
  have hlen := Sp.split_len s 10
  have HS := hide (Sp.split_size s 10)
  have HV := hide (Sp.split_V hV)
  generalize hls : Sp.split s 10 = ls at hlen HS HC HV
  have HLS := hide hls
  clear hls hV hm
  go_enter Tryd.func38, Tryd.ntmps38
  go_wp2_with fail
  refine (unhide HC).mono ?_
  rintro e w1 ⟨rfl, hw1⟩
  have hV1 : w1.ownsRow w.heap.size 9 1 (.slice (some ⟨w.heap.size, 0, none⟩) ls.length ls.length) ls.length (ls.map Value.string) := by
    rw [hw1]
    have := World.ownsRow_lit (base := w.heap.size) (e := 9) (size := 1) w (ls.map Value.string).toArray ls.length (Nat.le_refl _) (by unfold maxLen; omega) (by simp)
    simpa using this
  have hb1 : Below w.heap.size w w1 := by rw [hw1]; exact (Below.refl _ _).alloc (Nat.le_refl _) _
  clear hw1
  obtain ⟨g0, hg0⟩ : ∃ g0, w.heap.size = g0 := ⟨_, rfl⟩
  have HG := hide hg0
  have hV2 : w1.ownsRow w.heap.size 9 1 (.slice (some ⟨g0, 0, none⟩) ls.length ls.length) ls.length (ls.map Value.string) := by rw [← hg0]; exact hV1
  rw [hg0]
  clear hg0 hV1
  go_wp2_with fail
  go_loopw [5, 13] (fun l i wr => ∃ (k : Nat) (P : List (Option Sp.Ln)), k ≤ ls.length ∧ P.length ≤ k ∧ i = .int .i64 k ∧ wr.ownsRow w.heap.size 130 4 l P.length (plsCells P) ∧
      wr.ownsRow w.heap.size 9 1 (.slice (some ⟨g0, 0, none⟩) ls.length ls.length) ls.length (ls.map Value.string) ∧ Below w.heap.size w wr ∧ Hid (Sp.plFrom (ls.drop k) k P = Sp.plFrom ls 0 []))
    (fun _ i _ => ls.length - (intOf i).toNat)
  case atStart => exact ⟨0, [], Nat.zero_le _, Nat.zero_le _, rfl, World.ownsRow_nil _ _ _ _, hV2, hb1, rfl⟩
  case round =>
    obtain ⟨k, P, hk, hPk, rfl, hl, hv, hbw, HR⟩ := hrel
    by_cases hlt : k < ls.length
    · have hcx : wr.cell? ⟨g0, k, none⟩ = some (.string ls[k]) := by
        rw [hv.cellAt k (by omega)]; simp [hlt]
      have hxs : (ls[k]).size ≤ 4000 := by have := (unhide HS) ls[k] (List.getElem_mem hlt); omega
      have HXV := hide ((unhide HV) ls[k] (List.getElem_mem hlt))
      generalize hx : ls[k] = x at hcx hxs HXV
      have HX := hide hx
      clear hx
      obtain ⟨cap, C, hcv, hc1, hc2, hc3⟩ := conv_runes x wr hxs
      have HC3 := hide hc3
      have HC1 := hide hc1
      have HC2 := hide hc2
      clear hc1 hc2 hc3
      have hbA : Below w.heap.size w (wr.drew.alloc (.cells C 21)) := hbw.drew.alloc hbw.size _
      have hlA := (own_below hl (Below.refl _ _).drew).alloc (.cells C 21)
      have hvA := (own_below hv (Below.refl _ _).drew).alloc (.cells C 21)
      cases hln : Sp.plOf x with
      | none =>
        have HN := hide hln
        clear hln
        go_wp2_with fail
        refine (readLine_word x _ cap _ (unhide HXV) hxs (unhide HC3) (unhide HC1) (unhide HC2)).mono ?_
        rintro e w2 ⟨hb2, he⟩
        rw [unhide HN] at he
        obtain ⟨k1, a1, b1, n1, rfl⟩ := he
        have hbB := hbA.trans (hb2.mono hbA.size)
        have hzB := hbB.size
        clear hcv hlA hvA hb2 hbA
        unfold plVal
        go_wp2
        exact bodyPost_ret (v := .tuple #[.slice none 0 0, .int .i64 k, .bool false]) (by simp [results, Tryd.results38, go_sem]) rfl (lines_err (by rw [unhide HLS, ← unhide HR]; exact Sp.pl_none hlt P (by rw [unhide HX]; exact unhide HN)) (hbB.alloc hzB _))
      | some q =>
        have HN := hide hln
        clear hln
        go_wp2_with fail
        refine (readLine_word x _ cap _ (unhide HXV) hxs (unhide HC3) (unhide HC1) (unhide HC2)).mono ?_
        rintro e w2 ⟨hb2, he⟩
        rw [unhide HN] at he
        obtain rfl := he
        have hbB := hbA.trans (hb2.mono hbA.size)
        have hzB := hbB.size
        have hl2 := own_below hlA hb2
        have hv2 := own_below hvA hb2
        clear hcv hlA hvA hb2 hbA hl hv hcx
        unfold plVal
        go_wp2_with (first
          | (at_builtin; go_must (refine wpList_append_own _ rfl (.tmp 27) (.tmp 29) 94 rfl w.heap.size 130 i0 _ 4 24 Tryd.underlying94 hi hz0 hz1 hz2 rfl (by decide) _ _ _ rfl ((hl2.alloc _).alloc _) ⟨w2.heap.size + 1, 0, none⟩ 1 1 (plCells q) rfl rfl ?c1 ?c2 ?c3 ?c4 ?c5 ?_))
          | go_in)
        case c1 =>
          intro j u hj
          match j, hj with
          | 0, hj => simp [plCells] at hj; subst hj; simp [Addr.add]
          | 1, hj => simp [plCells] at hj; subst hj; simp [Addr.add]
          | 2, hj => simp [plCells] at hj; subst hj; simp [Addr.add]
          | 3, hj => simp [plCells] at hj; subst hj; simp [Addr.add]
          | j + 4, hj => simp [plCells] at hj
        case c2 => intro u hu; simp [plCells] at hu; rcases hu with rfl | rfl | rfl | rfl <;> rfl
        case c3 => unfold maxLen; omega
        case c4 => omega
        case c5 => simp; omega
        intro v3 w3 hl3 hg3 _
        have hbw3 := rel_app (ys := []) (v' := v3) (by simp; omega) ((hl2.alloc _).alloc _) ((hbB.alloc hzB _).alloc (by simp; omega) _) hg3
        have hv3 := own_app ((hl2.alloc _).alloc _) ((hv2.alloc _).alloc _) (by decide) hg3
        clear hg3 hl2 hv2 hbB
        go_wp2
        go_roundw
        case rel =>
          exact ⟨k + 1, P ++ [q], by omega, by simp; omega, by go_num, by simpa [plsCells, List.flatMap_append] using hl3, hv3, hbw3, by
            show _ = _; rw [← unhide HR]; exact (Sp.pl_some hlt P (by rw [unhide HX]; exact unhide HN)).symm⟩
        case measure => simp [intOf]; omega
    · go_wp2
      refine bodyPost_ret (v := .tuple #[_, .int .i64 0, .bool true]) (by simp [results, Tryd.results38, go_sem]) rfl (lines_ok (P := P) ?_ hbw hl)
      rw [unhide HLS, ← unhide HR]
      exact Sp.pl_end (by omega) P
end Go.Proofs.YteflnddphpjahaaDoor
