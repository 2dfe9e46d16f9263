import Derived.Test.YteflnddphpjahaaDoorClCardA
import Derived.Test.YteflnddphpjahaaDoorClCqS
/-
  What Compiled's row lists, read off: the shapes, errStack.
-/
set_option linter.unusedVariables false
namespace Go.Proofs.YteflnddphpjahaaDoor
open Go.RowKit Go.Shelf Go.Lib
open Go.ChangeShapes Go.WideShapes Go.ChangeAt
open Go.ChangeMaps (open_string shut_string)

theorem shapeFields : ∃ f0 f1 f2 : Field, Tryd.prog.underlying 121 = some (.struct #[f0, f1, f2]) ∧ f0.type = 9 ∧ f1.type = 4 ∧ f2.type = 4 ∧ f0.offset = 0 ∧ f1.offset = 1 ∧ f2.offset = 2 :=
  ⟨_, _, _, Tryd.underlying121, rfl, rfl, rfl, rfl, rfl, rfl⟩
theorem cellsShape : Tryd.prog.cellsOf 121 = 3 := by kernel_rfl
theorem cellsStr : Tryd.prog.cellsOf 9 = 1 := by kernel_rfl
theorem cellsBool : Tryd.prog.cellsOf 4 = 1 := by kernel_rfl
theorem len3 {cs : List Value} (h : cs.length = 3) : ∃ a b c, cs = [a, b, c] := by
  match cs, h with
  | [a, b, c], _ => exact ⟨a, b, c, rfl⟩
set_option maxRecDepth 100000 in
theorem shape_one {H : Type} {enc : TypeId × Value → H} {w : World} {fuel : Nat} {cs : List Value} {s : List UInt8} {a b : Bool} {q : List MemPlace} (h : DataW.trod enc Tryd.prog w 0 (fun _ => true) false fuel 121 cs = some (.agg [.lit (.string s), .lit (.bool a), .lit (.bool b)], q)) :
    cs = [.string ⟨⟨s⟩⟩, .bool a, .bool b] := by
  obtain ⟨f0, f1, f2, hu, t0, t1, t2, o0, o1, o2⟩ := shapeFields
  obtain ⟨xs, n, _, hx, hl, hlen, hf⟩ := DataW.trod_struct hu h
  rw [cellsShape] at hl
  match xs, hlen with
  | [y0, y1, y2], _ =>
    have g0 := hf 0 f0 rfl
    have g1 := hf 1 f1 rfl
    have g2 := hf 2 f2 rfl
    rw [t0, o0, cellsStr] at g0
    rw [t1, o1, cellsBool] at g1
    rw [t2, o2, cellsBool] at g2
    obtain ⟨k, e0, rfl, _⟩ := DataW.trod_string Tryd.underlying9 (x := y0) (by simpa using g0)
    obtain ⟨a', e1, rfl⟩ := DataW.trod_bool Tryd.underlying4 (x := y1) (by simpa using g1)
    obtain ⟨b', e2, rfl⟩ := DataW.trod_bool Tryd.underlying4 (x := y2) (by simpa using g2)
    obtain ⟨c0, c1, c2, rfl⟩ := len3 hl
    clear h hf g0 g1 g2
    have i0 : [c0] = [Value.string k] := e0
    have i1 : [c1] = [Value.bool a'] := e1
    have i2 : [c2] = [Value.bool b'] := e2
    injection i0 with i0
    injection i1 with i1
    injection i2 with i2
    have hx1 := congrArg Prod.fst hx
    injection hx1 with hx2
    have h3 : [DataW.lit (.string s), DataW.lit (.bool a), DataW.lit (.bool b)] = [(DataW.lit (.string k.data.toList) : DataW H), .lit (.bool a'), .lit (.bool b')] := hx2
    injection h3 with h0 h3
    injection h3 with h1 h3
    injection h3 with h2 _
    injection h0 with h0
    injection h0 with h0
    injection h1 with h1
    injection h1 with h1
    injection h2 with h2
    injection h2 with h2
    subst i0 i1 i2 h1 h2
    have hk : k = ⟨⟨s⟩⟩ := by apply ByteArray.ext; apply Array.toList_inj.1; exact h0.symm
    rw [hk]
theorem sh_data : (i : Nat) → i < 7 → ∀ (ds : List (DataW Unit)), (Rows.laid_stride_programs_shapes : DataW Unit) = .agg ds → ds[i]? = some (.agg [.lit (.string (Sp.headsL[i]!)), .lit (.bool (decide (i < 5))), .lit (.bool (i == 2))])
  | 0, _, ds, e => by unfold Rows.laid_stride_programs_shapes at e; injection e with e; rw [← e]; rfl
  | 1, _, ds, e => by unfold Rows.laid_stride_programs_shapes at e; injection e with e; rw [← e]; rfl
  | 2, _, ds, e => by unfold Rows.laid_stride_programs_shapes at e; injection e with e; rw [← e]; rfl
  | 3, _, ds, e => by unfold Rows.laid_stride_programs_shapes at e; injection e with e; rw [← e]; rfl
  | 4, _, ds, e => by unfold Rows.laid_stride_programs_shapes at e; injection e with e; rw [← e]; rfl
  | 5, _, ds, e => by unfold Rows.laid_stride_programs_shapes at e; injection e with e; rw [← e]; rfl
  | 6, _, ds, e => by unfold Rows.laid_stride_programs_shapes at e; injection e with e; rw [← e]; rfl
  | n + 7, h, _, _ => absurd h (by omega)
theorem shapes_of {w : World} (h : VarReads Tryd.prog w "stride/programs.shapes" Rows.laid_stride_programs_shapes) : ShapesAt w := by
  obtain ⟨g, t, cs, fuel, p, hg, hty, hvar, hd⟩ := h
  obtain rfl : 0 = g := Option.some.inj ((show Tryd.prog.globalNamed "stride/programs.shapes" = some 0 by kernel_rfl).symm.trans hg)
  obtain rfl : 122 = t := Option.some.inj ((show (Tryd.prog.globals[0]?).map (·.type) = some 122 by kernel_rfl).symm.trans hty)
  obtain ⟨ds, hds⟩ : ∃ ds, (Rows.laid_stride_programs_shapes : DataW Unit) = .agg ds := ⟨_, rfl⟩
  rw [hds] at hd
  have hc : ∀ i, i < 7 → w.cell? ⟨0, i * 3, none⟩ = some (.string (shNm i)) ∧ w.cell? ⟨0, i * 3 + 1, none⟩ = some (.bool (decide (i < 5))) ∧ w.cell? ⟨0, i * 3 + 2, none⟩ = some (.bool (i == 2)) := by
    intro i hi
    obtain ⟨fuel', d, q, hdi, he⟩ := array_elem Tryd.underlying122 hd i hi
    rw [sh_data i hi ds hds] at hdi
    injection hdi with hdi
    subst hdi
    rw [cellsShape] at he
    have hcs := shape_one he
    have e0 := congrArg (·[0]?) hcs
    have e1 := congrArg (·[1]?) hcs
    have e2 := congrArg (·[2]?) hcs
    simp only [List.getElem?_take, List.getElem?_drop] at e0 e1 e2
    refine ⟨?_, ?_, ?_⟩
    · rw [World.var?_cell hg hvar (i * 3), ← Array.getElem?_toList]
      simpa [shNm] using e0
    · rw [World.var?_cell hg hvar (i * 3 + 1), ← Array.getElem?_toList]
      simpa using e1
    · rw [World.var?_cell hg hvar (i * 3 + 2), ← Array.getElem?_toList]
      simpa using e2
  intro j v hj
  match j, hj with
  | 0, h => simp [shL] at h; subst h; rw [Nat.zero_add]; exact (hc 0 (by omega)).1
  | 1, h => simp [shL] at h; subst h; rw [Nat.zero_add]; exact (hc 0 (by omega)).2.1
  | 2, h => simp [shL] at h; subst h; rw [Nat.zero_add]; exact (hc 0 (by omega)).2.2
  | 3, h => simp [shL] at h; subst h; rw [Nat.zero_add]; exact (hc 1 (by omega)).1
  | 4, h => simp [shL] at h; subst h; rw [Nat.zero_add]; exact (hc 1 (by omega)).2.1
  | 5, h => simp [shL] at h; subst h; rw [Nat.zero_add]; exact (hc 1 (by omega)).2.2
  | 6, h => simp [shL] at h; subst h; rw [Nat.zero_add]; exact (hc 2 (by omega)).1
  | 7, h => simp [shL] at h; subst h; rw [Nat.zero_add]; exact (hc 2 (by omega)).2.1
  | 8, h => simp [shL] at h; subst h; rw [Nat.zero_add]; exact (hc 2 (by omega)).2.2
  | 9, h => simp [shL] at h; subst h; rw [Nat.zero_add]; exact (hc 3 (by omega)).1
  | 10, h => simp [shL] at h; subst h; rw [Nat.zero_add]; exact (hc 3 (by omega)).2.1
  | 11, h => simp [shL] at h; subst h; rw [Nat.zero_add]; exact (hc 3 (by omega)).2.2
  | 12, h => simp [shL] at h; subst h; rw [Nat.zero_add]; exact (hc 4 (by omega)).1
  | 13, h => simp [shL] at h; subst h; rw [Nat.zero_add]; exact (hc 4 (by omega)).2.1
  | 14, h => simp [shL] at h; subst h; rw [Nat.zero_add]; exact (hc 4 (by omega)).2.2
  | 15, h => simp [shL] at h; subst h; rw [Nat.zero_add]; exact (hc 5 (by omega)).1
  | 16, h => simp [shL] at h; subst h; rw [Nat.zero_add]; exact (hc 5 (by omega)).2.1
  | 17, h => simp [shL] at h; subst h; rw [Nat.zero_add]; exact (hc 5 (by omega)).2.2
  | 18, h => simp [shL] at h; subst h; rw [Nat.zero_add]; exact (hc 6 (by omega)).1
  | 19, h => simp [shL] at h; subst h; rw [Nat.zero_add]; exact (hc 6 (by omega)).2.1
  | 20, h => simp [shL] at h; subst h; rw [Nat.zero_add]; exact (hc 6 (by omega)).2.2
  | n + 21, h => simp [shL] at h
theorem iface_one {P : Program} {w : World} {base : Nat} {sp : Nat → Bool} {fuel : Nat} {t : TypeId} {ms : Array (String × TypeId)} {cs : List Value} {nm : String} {d : DataW Unit} {q : List MemPlace} (ht : P.underlying t = some (.interface ms)) (h : DataW.trod (fun _ => ()) P w base sp false fuel t cs = some (.iface nm d, q)) : ∃ u v, cs = [.iface u v] := by
  cases fuel with
  | zero => simp [DataW.trod] at h
  | succ n =>
    match cs, h with
    | [], h => simp [DataW.trod, ht] at h
    | [c], h =>
      cases c
      case iface u v => exact ⟨u, v, rfl⟩
      all_goals (simp [DataW.trod, ht] at h)
    | a :: b :: r, h => simp [DataW.trod, ht] at h
theorem err_of {w : World} (h : VarReads Tryd.prog w "stride/programs.errStack" Rows.laid_stride_programs_errStack) : ∃ u p, w.cell? ⟨4, 0, none⟩ = some (.iface u p) := by
  obtain ⟨g, t, cs, fuel, p, hg, hty, hvar, hd⟩ := h
  obtain rfl : 4 = g := Option.some.inj ((show Tryd.prog.globalNamed "stride/programs.errStack" = some 4 by kernel_rfl).symm.trans hg)
  obtain rfl : 186 = t := Option.some.inj ((show (Tryd.prog.globals[4]?).map (·.type) = some 186 by kernel_rfl).symm.trans hty)
  obtain ⟨u, v, hcs⟩ := iface_one Tryd.underlying186 hd
  refine ⟨u, v, ?_⟩
  rw [World.var?_cell hg hvar 0, ← Array.getElem?_toList, hcs]; rfl

end Go.Proofs.YteflnddphpjahaaDoor
