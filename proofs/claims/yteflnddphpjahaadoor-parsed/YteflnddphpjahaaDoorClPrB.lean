import Derived.Test.YteflnddphpjahaaDoorClMkB
import Derived.Test.YteflnddphpjahaaDoorClPrA
import Derived.Test.YteflnddphpjahaaDoorClFindA
import Derived.Test.YteflnddphpjahaaDoorClRefI
import Derived.Deep.DeepMust
/-
  graphs.Parse, stride.Parse: as the document says.
-/
set_option linter.unusedVariables false
set_option linter.unusedSimpArgs false
set_option maxRecDepth 100000
namespace Go.Proofs.YteflnddphpjahaaDoor
open Go.RowKit

abbrev nilG : Value := graphVal (.slice none 0 0) (.slice none 0 0) (.slice none 0 0)
theorem refuse_any (a b : Int) (w : World) : Calls Tryd.prog 36 #[.int .i64 a, .int .i64 b] w fun e w' => e = .returned (.tuple #[nilG, .int .i64 a, .int .i64 b]) ∧ Below w.heap.size w w' := by
  go_enter Tryd.func36, Tryd.ntmps36
  go_wp2
  refine bodyPost_ret (v := .tuple #[nilG, .int .i64 a, .int .i64 b]) (by simp [results, Tryd.results36, go_sem, graphVal]) rfl ⟨rfl, ?_⟩
  exact (Below.refl _ _).alloc (Nat.le_refl _) _

def Small (s : ByteArray) : Prop := ∀ L, Sp.parseSpec s = .ok L → (Sp.vs L (Sp.nv L)).length ≤ 64 ∧ (Sp.es L (Sp.nv L) (Sp.nv L)).length ≤ 256
theorem small_err {s : ByteArray} {ab : Int × Int} (h : Sp.parseSpec s = .error ab) : Small s := fun L hL => by rw [h] at hL; cases hL
/-- The document's answer, and that it is small. -/
def PPost (s : ByteArray) (w : World) (e : Ending) (w' : World) : Prop := ParsePost s w e w' ∧ Small s

theorem split_ok_below {w w' : World} (h : SplitOk w) (hb : Below w.heap.size w w') : SplitOk w' := by
  obtain ⟨m, hm⟩ := h
  exact ⟨m, (hb.cell (World.block_lt_of_cell? w _ hm)).trans hm⟩
/-- The block of the results, with nothing in it yet. -/
def Res (w w' : World) : Prop := Below w.heap.size w w' ∧ w.heap.size + 1 ≤ w'.heap.size ∧ w'.heap[w.heap.size]? = some (.cells #[.slice none 0 0, .slice none 0 0, .slice none 0 0] 40 (0, 0))
theorem Res.new (w : World) : Res w (w.alloc (.cells #[.slice none 0 0, .slice none 0 0, .slice none 0 0] 40)) := ⟨(Below.refl _ _).alloc (Nat.le_refl _) _, by simp, World.alloc_heap_new w _⟩
theorem Res.next {w a b : World} (h : Res w a) (hb : Below a.heap.size a b) : Res w b :=
  ⟨h.1.trans (hb.mono (by have := h.2.1; omega)), Nat.le_trans h.2.1 hb.size, (hb.block _ (by have := h.2.1; omega)).trans h.2.2⟩
theorem Res.next1 {w a b : World} {n : Nat} (h : Res w a) (hb : Below n a b) (hn : w.heap.size + 1 ≤ n) : Res w b :=
  ⟨h.1.trans (hb.mono (by omega)), Nat.le_trans h.2.1 hb.size, (hb.block _ (by omega)).trans h.2.2⟩

set_option maxHeartbeats 2000000 in
theorem gparse_long (s : ByteArray) (w : World) (h : 4000 < s.size) : Calls Tryd.prog 23 #[.string s] w (PPost s w) := by
  have HP := hide (spec_long h)
  have hz : (4000 : Int) < (s.size : Int) := by omega
  clear h
  go_enter Tryd.func23, Tryd.ntmps23
  go_wp2_with fail
  have R0 := Res.new w
  refine (refuse_any 1 0 _).mono ?_
  rintro e wz ⟨rfl, hbz⟩
  have RZ := R0.next hbz
  obtain ⟨n0, n1, n2, nf⟩ := blk3_cell RZ.2.2
  have nf0 := nf 0
  have nf1 := nf 1
  have nf2 := nf 2
  have hzs := RZ.2.1
  have hzb := RZ.1
  clear hbz
  unfold nilG graphVal
  go_wp2
  refine bodyPost_ret (v := .tuple #[nilG, .int .i64 1, .int .i64 0]) (by simp [results, Tryd.results23, go_sem, graphVal, n0, n1, n2]) rfl ⟨parse_err (unhide HP) ?_, small_err (unhide HP)⟩
  exact ((hzb.setCell (Nat.le_refl _) _).setCell (Nat.le_refl _) _).setCell (Nat.le_refl _) _

set_option maxHeartbeats 2000000 in
theorem gparse_bad (s : ByteArray) (w : World) (hs : s.size ≤ 4000) (hT : Lib.Utf8Tabs 2 3 w) (hS : SplitOk w) {i : Nat} (hb : Sp.bad s = some i) : Calls Tryd.prog 23 #[.string s] w (PPost s w) := by
  have HP := hide (spec_bad (by omega) hb)
  have HB := hide hb
  have hz : ¬ (4000 : Int) < (s.size : Int) := by omega
  clear hb
  go_enter Tryd.func23, Tryd.ntmps23
  go_wp2_with fail
  have R0 := Res.new w
  refine (findNoRune_any s _ hs (tabs_below hT R0.1)).mono ?_
  rintro e w1 ⟨hb1, hm1⟩
  rw [unhide HB] at hm1
  obtain rfl := hm1
  have R1 := R0.next hb1
  clear hb1
  go_wp2_with fail
  refine (refuse_any 2 (i : Nat) _).mono ?_
  rintro e wz ⟨rfl, hbz⟩
  have RZ := R1.next hbz
  obtain ⟨n0, n1, n2, nf⟩ := blk3_cell RZ.2.2
  have nf0 := nf 0
  have nf1 := nf 1
  have nf2 := nf 2
  have hzs := RZ.2.1
  have hzb := RZ.1
  clear hbz
  unfold nilG graphVal
  go_wp2
  refine bodyPost_ret (v := .tuple #[nilG, .int .i64 2, .int .i64 (i : Nat)]) (by simp [results, Tryd.results23, go_sem, graphVal, n0, n1, n2]) rfl ⟨parse_err (unhide HP) ?_, small_err (unhide HP)⟩
  exact ((hzb.setCell (Nat.le_refl _) _).setCell (Nat.le_refl _) _).setCell (Nat.le_refl _) _

set_option maxHeartbeats 2000000 in
theorem gparse_form (s : ByteArray) (w : World) (hs : s.size ≤ 4000) (hT : Lib.Utf8Tabs 2 3 w) (hS : SplitOk w) (hb : Sp.bad s = none) {k : Nat} (hl : Sp.plFrom (Sp.split s 10) 0 [] = .error k) : Calls Tryd.prog 23 #[.string s] w (PPost s w) := by
  have HP := hide (spec_form (by omega) hb hl)
  have HB := hide hb
  have HL := hide hl
  have hz : ¬ (4000 : Int) < (s.size : Int) := by omega
  clear hb hl
  go_enter Tryd.func23, Tryd.ntmps23
  go_wp2_with fail
  have R0 := Res.new w
  refine (findNoRune_any s _ hs (tabs_below hT R0.1)).mono ?_
  rintro e w1 ⟨hb1, hm1⟩
  rw [unhide HB] at hm1
  obtain rfl := hm1
  have R1 := R0.next hb1
  clear hb1
  go_wp2_with fail
  refine (readLines_any s _ hs (Sp.V_of_bad (unhide HB)) (split_ok_below hS R1.1)).mono ?_
  rintro e w2 ⟨hb2, hm2⟩
  rw [unhide HL] at hm2
  obtain rfl := hm2
  have R2 := R1.next hb2
  clear hb2
  go_wp2_with fail
  refine (refuse_any 3 (k : Nat) _).mono ?_
  rintro e wz ⟨rfl, hbz⟩
  have RZ := R2.next hbz
  obtain ⟨n0, n1, n2, nf⟩ := blk3_cell RZ.2.2
  have nf0 := nf 0
  have nf1 := nf 1
  have nf2 := nf 2
  have hzs := RZ.2.1
  have hzb := RZ.1
  clear hbz
  unfold nilG graphVal
  go_wp2
  refine bodyPost_ret (v := .tuple #[nilG, .int .i64 3, .int .i64 (k : Nat)]) (by simp [results, Tryd.results23, go_sem, graphVal, n0, n1, n2]) rfl ⟨parse_err (unhide HP) ?_, small_err (unhide HP)⟩
  exact ((hzb.setCell (Nat.le_refl _) _).setCell (Nat.le_refl _) _).setCell (Nat.le_refl _) _

theorem pl_short {s : ByteArray} (hs : s.size ≤ 4000) {P : List (Option Sp.Ln)} (h : Sp.plFrom (Sp.split s 10) 0 [] = .ok P) : P.length ≤ 5000 := by
  have h1 := Sp.pl_len _ _ _ _ h
  have h2 := (Sp.split_len s 10).2
  simp at h1
  omega

set_option maxHeartbeats 2000000 in
theorem gparse_twice (s : ByteArray) (w : World) (hs : s.size ≤ 4000) (hT : Lib.Utf8Tabs 2 3 w) (hS : SplitOk w) (hb : Sp.bad s = none) {P : List (Option Sp.Ln)} (hl : Sp.plFrom (Sp.split s 10) 0 [] = .ok P) {k : Nat} (hv : Sp.gv P 0 [] = .error k) : Calls Tryd.prog 23 #[.string s] w (PPost s w) := by
  have HP := hide (spec_twice (by omega) hb hl hv)
  have hPl := pl_short hs hl
  have HB := hide hb
  have HL := hide hl
  have HV := hide hv
  have hz : ¬ (4000 : Int) < (s.size : Int) := by omega
  clear hb hl hv
  go_enter Tryd.func23, Tryd.ntmps23
  go_wp2_with fail
  have R0 := Res.new w
  refine (findNoRune_any s _ hs (tabs_below hT R0.1)).mono ?_
  rintro e w1 ⟨hb1, hm1⟩
  rw [unhide HB] at hm1
  obtain rfl := hm1
  have R1 := R0.next hb1
  clear hb1
  go_wp2_with fail
  refine (readLines_any s _ hs (Sp.V_of_bad (unhide HB)) (split_ok_below hS R1.1)).mono ?_
  rintro e w2 ⟨hb2, hm2⟩
  rw [unhide HL] at hm2
  obtain ⟨v2, rfl, ho2⟩ := hm2
  obtain ⟨p2, c2, rfl, hpl⟩ := pls_of_own ho2
  have R2 := R1.next hb2
  clear hb2 ho2
  go_wp2_with fail
  refine (gatherVertices_any p2 c2 P _ hpl hPl).mono ?_
  rintro e w3 ⟨hb3, hm3⟩
  rw [unhide HV] at hm3
  obtain rfl := hm3
  have R3 := R2.next hb3
  clear hb3
  go_wp2_with fail
  refine (refuse_any 4 (k : Nat) _).mono ?_
  rintro e wz ⟨rfl, hbz⟩
  have RZ := R3.next hbz
  obtain ⟨n0, n1, n2, nf⟩ := blk3_cell RZ.2.2
  have nf0 := nf 0
  have nf1 := nf 1
  have nf2 := nf 2
  have hzs := RZ.2.1
  have hzb := RZ.1
  clear hbz
  unfold nilG graphVal
  go_wp2
  refine bodyPost_ret (v := .tuple #[nilG, .int .i64 4, .int .i64 (k : Nat)]) (by simp [results, Tryd.results23, go_sem, graphVal, n0, n1, n2]) rfl ⟨parse_err (unhide HP) ?_, small_err (unhide HP)⟩
  exact ((hzb.setCell (Nat.le_refl _) _).setCell (Nat.le_refl _) _).setCell (Nat.le_refl _) _

set_option maxHeartbeats 2000000 in
theorem gparse_name (s : ByteArray) (w : World) (hs : s.size ≤ 4000) (hT : Lib.Utf8Tabs 2 3 w) (hS : SplitOk w) (hb : Sp.bad s = none) {P : List (Option Sp.Ln)} (hl : Sp.plFrom (Sp.split s 10) 0 [] = .ok P) {T : Sp.Tb} (hv : Sp.gv P 0 [] = .ok T) {k : Nat} (he : Sp.ge T P 0 [] = .error k) : Calls Tryd.prog 23 #[.string s] w (PPost s w) := by
  have HP := hide (spec_name (by omega) hb hl hv he)
  have hPl := pl_short hs hl
  have HB := hide hb
  have HL := hide hl
  have HV := hide hv
  have HE := hide he
  have hz : ¬ (4000 : Int) < (s.size : Int) := by omega
  clear hb hl hv he
  go_enter Tryd.func23, Tryd.ntmps23
  go_wp2_with fail
  have R0 := Res.new w
  refine (findNoRune_any s _ hs (tabs_below hT R0.1)).mono ?_
  rintro e w1 ⟨hb1, hm1⟩
  rw [unhide HB] at hm1
  obtain rfl := hm1
  have R1 := R0.next hb1
  clear hb1
  go_wp2_with fail
  refine (readLines_any s _ hs (Sp.V_of_bad (unhide HB)) (split_ok_below hS R1.1)).mono ?_
  rintro e w2 ⟨hb2, hm2⟩
  rw [unhide HL] at hm2
  obtain ⟨v2, rfl, ho2⟩ := hm2
  obtain ⟨p2, c2, rfl, hpl⟩ := pls_of_own ho2
  have R2 := R1.next hb2
  clear hb2 ho2
  go_wp2_with fail
  refine (gatherVertices_any p2 c2 P _ hpl hPl).mono ?_
  rintro e w3 ⟨hb3, hm3⟩
  rw [unhide HV] at hm3
  obtain ⟨rfl, htab, hts, htl⟩ := hm3
  have R3 := R2.next hb3
  have hpl3 := hpl.below hb3
  clear hpl hb3
  go_wp2_with fail
  refine (gatherEdges_any p2 c2 w2.heap.size _ P T _ hpl3 hPl htab hts (by omega)).mono ?_
  rintro e w4 ⟨hb4, hm4⟩
  rw [unhide HE] at hm4
  obtain rfl := hm4
  have R4 := R3.next hb4
  clear hb4
  go_wp2_with fail
  refine (refuse_any 5 (k : Nat) _).mono ?_
  rintro e wz ⟨rfl, hbz⟩
  have RZ := R4.next hbz
  obtain ⟨n0, n1, n2, nf⟩ := blk3_cell RZ.2.2
  have nf0 := nf 0
  have nf1 := nf 1
  have nf2 := nf 2
  have hzs := RZ.2.1
  have hzb := RZ.1
  clear hbz
  unfold nilG graphVal
  go_wp2
  refine bodyPost_ret (v := .tuple #[nilG, .int .i64 5, .int .i64 (k : Nat)]) (by simp [results, Tryd.results23, go_sem, graphVal, n0, n1, n2]) rfl ⟨parse_err (unhide HP) ?_, small_err (unhide HP)⟩
  exact ((hzb.setCell (Nat.le_refl _) _).setCell (Nat.le_refl _) _).setCell (Nat.le_refl _) _

set_option maxHeartbeats 2000000 in
theorem gparse_many1 (s : ByteArray) (w : World) (hs : s.size ≤ 4000) (hT : Lib.Utf8Tabs 2 3 w) (hS : SplitOk w) (hb : Sp.bad s = none) {P : List (Option Sp.Ln)} (hl : Sp.plFrom (Sp.split s 10) 0 [] = .ok P) {T : Sp.Tb} (hv : Sp.gv P 0 [] = .ok T) {E : List Sp.Ed} (he : Sp.ge T P 0 [] = .ok E) (hm : 64 < T.length) : Calls Tryd.prog 23 #[.string s] w (PPost s w) := by
  have HF := hide (spec_fine (by omega) hb hl hv he)
  have hPl := pl_short hs hl
  have HB := hide hb
  have HL := hide hl
  have HV := hide hv
  have HE := hide he
  have HP : Hid (Sp.parseSpec s = .error (6, 0)) := by
    show _ = _
    rw [(unhide HF).spec, if_pos (Or.inr (by rw [← (unhide HF).tl]; exact hm))]
  have hmz : (64 : Int) < (T.length : Int) := by omega
  clear hm
  have hz : ¬ (4000 : Int) < (s.size : Int) := by omega
  clear hb hl hv he
  go_enter Tryd.func23, Tryd.ntmps23
  go_wp2_with fail
  have R0 := Res.new w
  refine (findNoRune_any s _ hs (tabs_below hT R0.1)).mono ?_
  rintro e w1 ⟨hb1, hm1⟩
  rw [unhide HB] at hm1
  obtain rfl := hm1
  have R1 := R0.next hb1
  clear hb1
  go_wp2_with fail
  refine (readLines_any s _ hs (Sp.V_of_bad (unhide HB)) (split_ok_below hS R1.1)).mono ?_
  rintro e w2 ⟨hb2, hm2⟩
  rw [unhide HL] at hm2
  obtain ⟨v2, rfl, ho2⟩ := hm2
  obtain ⟨p2, c2, rfl, hpl⟩ := pls_of_own ho2
  have R2 := R1.next hb2
  clear hb2 ho2
  go_wp2_with fail
  refine (gatherVertices_any p2 c2 P _ hpl hPl).mono ?_
  rintro e w3 ⟨hb3, hm3⟩
  rw [unhide HV] at hm3
  obtain ⟨rfl, htab, hts, htl⟩ := hm3
  have R3 := R2.next hb3
  have hpl3 := hpl.below hb3
  clear hpl hb3
  go_wp2_with fail
  refine (gatherEdges_any p2 c2 w2.heap.size _ P T _ hpl3 hPl htab hts (by omega)).mono ?_
  rintro e w4 ⟨hb4, hm4⟩
  rw [unhide HE] at hm4
  obtain ⟨v4, rfl, ho4, hel⟩ := hm4
  obtain ⟨p4, c4, rfl, _⟩ := own_slice ho4
  have R4 := R3.next hb4
  have htab4 := htab.below hb4
  have ho4' := own_base ho4 R3.2.1
  clear hpl3 hb4 htab ho4
  go_wp2_with fail
  refine (tlen_any _ _ T _ htab4).mono ?_
  rintro e w5 ⟨rfl, hw5⟩
  obtain rfl := hw5.symm
  clear hw5
  go_wp2_with fail
  refine (refuse_any 6 0 _).mono ?_
  rintro e wz ⟨rfl, hbz⟩
  have RZ := R4.next hbz
  obtain ⟨n0, n1, n2, nf⟩ := blk3_cell RZ.2.2
  have nf0 := nf 0
  have nf1 := nf 1
  have nf2 := nf 2
  have hzs := RZ.2.1
  have hzb := RZ.1
  clear hbz
  unfold nilG graphVal
  go_wp2
  refine bodyPost_ret (v := .tuple #[nilG, .int .i64 6, .int .i64 0]) (by simp [results, Tryd.results23, go_sem, graphVal, n0, n1, n2]) rfl ⟨parse_err (unhide HP) ?_, small_err (unhide HP)⟩
  exact ((hzb.setCell (Nat.le_refl _) _).setCell (Nat.le_refl _) _).setCell (Nat.le_refl _) _

set_option maxHeartbeats 2000000 in
theorem gparse_many2 (s : ByteArray) (w : World) (hs : s.size ≤ 4000) (hT : Lib.Utf8Tabs 2 3 w) (hS : SplitOk w) (hb : Sp.bad s = none) {P : List (Option Sp.Ln)} (hl : Sp.plFrom (Sp.split s 10) 0 [] = .ok P) {T : Sp.Tb} (hv : Sp.gv P 0 [] = .ok T) {E : List Sp.Ed} (he : Sp.ge T P 0 [] = .ok E) (hm1 : ¬ 64 < T.length) (hm : 256 < E.length) : Calls Tryd.prog 23 #[.string s] w (PPost s w) := by
  have HF := hide (spec_fine (by omega) hb hl hv he)
  have hPl := pl_short hs hl
  have HB := hide hb
  have HL := hide hl
  have HV := hide hv
  have HE := hide he
  have HP : Hid (Sp.parseSpec s = .error (6, 0)) := by
    show _ = _
    rw [(unhide HF).spec, if_pos (Or.inl (by rw [← (unhide HF).el]; exact hm))]
  have hmz1 : ¬ (64 : Int) < (T.length : Int) := by omega
  have hmz : (256 : Int) < (E.length : Int) := by omega
  have hz : ¬ (4000 : Int) < (s.size : Int) := by omega
  clear hb hl hv he
  go_enter Tryd.func23, Tryd.ntmps23
  go_wp2_with fail
  have R0 := Res.new w
  refine (findNoRune_any s _ hs (tabs_below hT R0.1)).mono ?_
  rintro e w1 ⟨hb1, hm1⟩
  rw [unhide HB] at hm1
  obtain rfl := hm1
  have R1 := R0.next hb1
  clear hb1
  go_wp2_with fail
  refine (readLines_any s _ hs (Sp.V_of_bad (unhide HB)) (split_ok_below hS R1.1)).mono ?_
  rintro e w2 ⟨hb2, hm2⟩
  rw [unhide HL] at hm2
  obtain ⟨v2, rfl, ho2⟩ := hm2
  obtain ⟨p2, c2, rfl, hpl⟩ := pls_of_own ho2
  have R2 := R1.next hb2
  clear hb2 ho2
  go_wp2_with fail
  refine (gatherVertices_any p2 c2 P _ hpl hPl).mono ?_
  rintro e w3 ⟨hb3, hm3⟩
  rw [unhide HV] at hm3
  obtain ⟨rfl, htab, hts, htl⟩ := hm3
  have R3 := R2.next hb3
  have hpl3 := hpl.below hb3
  clear hpl hb3
  go_wp2_with fail
  refine (gatherEdges_any p2 c2 w2.heap.size _ P T _ hpl3 hPl htab hts (by omega)).mono ?_
  rintro e w4 ⟨hb4, hm4⟩
  rw [unhide HE] at hm4
  obtain ⟨v4, rfl, ho4, hel⟩ := hm4
  obtain ⟨p4, c4, rfl, _⟩ := own_slice ho4
  have R4 := R3.next hb4
  have htab4 := htab.below hb4
  have ho4' := own_base ho4 R3.2.1
  clear hpl3 hb4 htab ho4
  go_wp2_with fail
  refine (tlen_any _ _ T _ htab4).mono ?_
  rintro e w5 ⟨rfl, hw5⟩
  obtain rfl := hw5.symm
  clear hw5
  go_wp2_with fail
  refine (refuse_any 6 0 _).mono ?_
  rintro e wz ⟨rfl, hbz⟩
  have RZ := R4.next hbz
  obtain ⟨n0, n1, n2, nf⟩ := blk3_cell RZ.2.2
  have nf0 := nf 0
  have nf1 := nf 1
  have nf2 := nf 2
  have hzs := RZ.2.1
  have hzb := RZ.1
  clear hbz
  unfold nilG graphVal
  go_wp2
  refine bodyPost_ret (v := .tuple #[nilG, .int .i64 6, .int .i64 0]) (by simp [results, Tryd.results23, go_sem, graphVal, n0, n1, n2]) rfl ⟨parse_err (unhide HP) ?_, small_err (unhide HP)⟩
  exact ((hzb.setCell (Nat.le_refl _) _).setCell (Nat.le_refl _) _).setCell (Nat.le_refl _) _

set_option maxHeartbeats 2000000 in
theorem gparse_ok (s : ByteArray) (w : World) (hs : s.size ≤ 4000) (hT : Lib.Utf8Tabs 2 3 w) (hS : SplitOk w) (hb : Sp.bad s = none) {P : List (Option Sp.Ln)} (hl : Sp.plFrom (Sp.split s 10) 0 [] = .ok P) {T : Sp.Tb} (hv : Sp.gv P 0 [] = .ok T) {E : List Sp.Ed} (he : Sp.ge T P 0 [] = .ok E) (hm1 : ¬ 64 < T.length) (hm2 : ¬ 256 < E.length) : Calls Tryd.prog 23 #[.string s] w (PPost s w) := by
  have HF := hide (spec_fine (by omega) hb hl hv he)
  have hPl := pl_short hs hl
  have HB := hide hb
  have HL := hide hl
  have HV := hide hv
  have HE := hide he
  have HP : Hid (Sp.parseSpec s = .ok (Sp.says P)) := by
    show _ = _
    rw [(unhide HF).spec, if_neg (by rw [← (unhide HF).el, ← (unhide HF).tl]; omega)]
  have hmz1 : ¬ (64 : Int) < (T.length : Int) := by omega
  have hmz2 : ¬ (256 : Int) < (E.length : Int) := by omega
  have hz : ¬ (4000 : Int) < (s.size : Int) := by omega
  clear hb hl hv he
  go_enter Tryd.func23, Tryd.ntmps23
  go_wp2_with fail
  have R0 := Res.new w
  refine (findNoRune_any s _ hs (tabs_below hT R0.1)).mono ?_
  rintro e w1 ⟨hb1, hm1⟩
  rw [unhide HB] at hm1
  obtain rfl := hm1
  have R1 := R0.next hb1
  clear hb1
  go_wp2_with fail
  refine (readLines_any s _ hs (Sp.V_of_bad (unhide HB)) (split_ok_below hS R1.1)).mono ?_
  rintro e w2 ⟨hb2, hm2⟩
  rw [unhide HL] at hm2
  obtain ⟨v2, rfl, ho2⟩ := hm2
  obtain ⟨p2, c2, rfl, hpl⟩ := pls_of_own ho2
  have R2 := R1.next hb2
  clear hb2 ho2
  go_wp2_with fail
  refine (gatherVertices_any p2 c2 P _ hpl hPl).mono ?_
  rintro e w3 ⟨hb3, hm3⟩
  rw [unhide HV] at hm3
  obtain ⟨rfl, htab, hts, htl⟩ := hm3
  have R3 := R2.next hb3
  have hpl3 := hpl.below hb3
  clear hpl hb3
  go_wp2_with fail
  refine (gatherEdges_any p2 c2 w2.heap.size _ P T _ hpl3 hPl htab hts (by omega)).mono ?_
  rintro e w4 ⟨hb4, hm4⟩
  rw [unhide HE] at hm4
  obtain ⟨v4, rfl, ho4, hel⟩ := hm4
  obtain ⟨p4, c4, rfl, _⟩ := own_slice ho4
  have R4 := R3.next hb4
  have htab4 := htab.below hb4
  have ho4' := own_base ho4 R3.2.1
  clear hpl3 hb4 htab ho4
  go_wp2_with fail
  refine (tlen_any _ _ T _ htab4).mono ?_
  rintro e w5 ⟨rfl, hw5⟩
  obtain rfl := hw5.symm
  clear hw5
  go_wp2_with fail
  refine (makeGraph_any _ (w.heap.size + 1) _ _ T E _ htab4 (by omega) ho4' (by omega) R4.2.1).mono ?_
  rintro e w6 ⟨v6, u6, Y, rfl, r60, r61, r62, hSt, hOrd, hb6⟩
  have R6 := R4.next1 hb6 (Nat.le_refl _)
  obtain ⟨pv, kv, rfl, _⟩ := own_slice r60
  obtain ⟨pu, ku, rfl, _⟩ := own_slice r61
  obtain ⟨n0, n1, n2, nf⟩ := blk3_cell R6.2.2
  have nf0 := nf 0
  have nf1 := nf 1
  have nf2 := nf 2
  have hzs := R6.2.1
  have hzb := R6.1
  have HST := hide hSt
  have HORD := hide hOrd
  clear hb6 hSt hOrd
  unfold graphVal
  go_wp2
  have hvs := Sp.vs_eq (unhide HF).srt (unhide HF).prm
  have hY : Y = Sp.es (Sp.says P) (Sp.nv (Sp.says P)) (Sp.nv (Sp.says P)) := es_done (unhide HF).srt (unhide HF).prm (unhide HF).lo (by rw [← (unhide HF).eq]; exact unhide HST) (by rw [← (unhide HF).eq]; exact unhide HORD)
  have hYl : E.length = Y.length := (unhide HST).1.symm
  have hlt : w.heap.size < w.heap.size + 1 := Nat.lt_succ_self _
  refine bodyPost_ret (v := .tuple #[graphVal (.slice pv T.length kv) (.slice pu T.length ku) (.slice p4 E.length c4), .int .i64 0, .int .i64 0]) (by simp [results, Tryd.results23, go_sem, graphVal, n0, n1, n2]) rfl ?_
  refine ⟨?_, fun L hL => by rw [unhide HP] at hL; injection hL with hL; subst hL; refine ⟨?_, by rw [← hY, ← hYl]; omega⟩; have h1 := congrArg List.length hvs; simp at h1; omega⟩
  refine parse_okl (N := T.map (·.1)) (V := T.map (·.2)) (unhide HP) rfl (((hzb.setCell (Nat.le_refl _) _).setCell (Nat.le_refl _) _).setCell (Nat.le_refl _) _) (by rw [← hvs]; simp) (by rw [← hvs]; simp) ?_ ?_ ?_
  · have h := own_base (B := w.heap.size) (ownsRow_setCell_below (ownsRow_setCell_below (ownsRow_setCell_below r60 (a := ⟨w.heap.size, 0, none⟩) hlt (.slice pv T.length kv)) (a := ⟨w.heap.size, 1, none⟩) hlt (.slice pu T.length ku)) (a := ⟨w.heap.size, 2, none⟩) hlt (.slice p4 E.length c4)) (Nat.le_succ _)
    simpa [List.map_map, Function.comp_def] using h
  · have h := own_base (B := w.heap.size) (ownsRow_setCell_below (ownsRow_setCell_below (ownsRow_setCell_below r61 (a := ⟨w.heap.size, 0, none⟩) hlt (.slice pv T.length kv)) (a := ⟨w.heap.size, 1, none⟩) hlt (.slice pu T.length ku)) (a := ⟨w.heap.size, 2, none⟩) hlt (.slice p4 E.length c4)) (Nat.le_succ _)
    simpa [List.map_map, Function.comp_def] using h
  · have h := own_base (B := w.heap.size) (ownsRow_setCell_below (ownsRow_setCell_below (ownsRow_setCell_below r62 (a := ⟨w.heap.size, 0, none⟩) hlt (.slice pv T.length kv)) (a := ⟨w.heap.size, 1, none⟩) hlt (.slice pu T.length ku)) (a := ⟨w.heap.size, 2, none⟩) hlt (.slice p4 E.length c4)) (Nat.le_succ _)
    rw [← hY, ← hYl]
    exact h

theorem gparse_any (s : ByteArray) (w : World) (hT : Lib.Utf8Tabs 2 3 w) (hS : SplitOk w) : Calls Tryd.prog 23 #[.string s] w (PPost s w) := by
  by_cases h0 : 4000 < s.size
  · exact gparse_long s w h0
  · cases hb : Sp.bad s with
    | some i => exact gparse_bad s w (by omega) hT hS hb
    | none =>
      cases hl : Sp.plFrom (Sp.split s 10) 0 [] with
      | error k => exact gparse_form s w (by omega) hT hS hb hl
      | ok P =>
        cases hv : Sp.gv P 0 [] with
        | error k => exact gparse_twice s w (by omega) hT hS hb hl hv
        | ok T =>
          cases he : Sp.ge T P 0 [] with
          | error k => exact gparse_name s w (by omega) hT hS hb hl hv he
          | ok E =>
            by_cases h1 : 64 < T.length
            · exact gparse_many1 s w (by omega) hT hS hb hl hv he h1
            · by_cases h2 : 256 < E.length
              · exact gparse_many2 s w (by omega) hT hS hb hl hv he h1 h2
              · exact gparse_ok s w (by omega) hT hS hb hl hv he h1 h2
end Go.Proofs.YteflnddphpjahaaDoor
