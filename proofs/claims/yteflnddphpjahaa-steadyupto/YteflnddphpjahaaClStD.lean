import Derived.Test.YteflnddphpjahaaClStC
/-
  Steady: each act leaves a good disk.
-/
set_option linter.unusedVariables false
set_option linter.unusedSimpArgs false
set_option maxRecDepth 100000
namespace Go.Proofs.Yteflnddphpjahaa.Dk
open Go.RowKit

def zx : ByteArray := ⟨#[120]⟩
def HX (o : Option (Nat × Fl)) (s : Sk) (F : Nat → Fl) : Prop := match o with
  | none => True
  | some p => Holds s F zx p.1 p.2
/-- A good disk. -/
def Disk (B D N m : Nat) (o : Option (Nat × Fl)) (w : World) : Prop := ∃ s F vn vs vc l vb, DiskAt w B D s F vn vs vc l vb ∧ Inv s F N m ∧ HX o s F
def Good (B D N m : Nat) (o : Option (Nat × Fl)) (W w' : World) : Prop := Below B W w' ∧ Disk B D N m o w'
theorem DiskAt.bw {w : World} {B D : Nat} {s : Sk} {F : Nat → Fl} {vn vs vc : Value} {l : Int} {vb : Nat → Value} (h : DiskAt w B D s F vn vs vc l vb) : B ≤ w.heap.size := by have := h.ge; have := lt_of_block h.blk; omega
theorem Inv.nl {s : Sk} {F : Nat → Fl} {N m : Nat} (h : Inv s F N m) : s.names.length ≤ 100000 := Nat.le_trans (short_letters h.ln.1 h.ln.2) (by omega)
/-- Nothing has changed. -/
theorem good_same {B D N m : Nat} {o : Option (Nat × Fl)} {s : Sk} {F : Nat → Fl} {vn vs vc : Value} {l : Int} {vb : Nat → Value} {W w' : World} (h : DiskAt W B D s F vn vs vc l vb) (hi : Inv s F N m) (hx : HX o s F) (hb : Below W.heap.size W w') : Good B D N (m + 1) o W w' :=
  ⟨hb.mono h.bw, s, F, vn, vs, vc, l, vb, h.below hb, hi.more, hx⟩

theorem act_create (B D N m : Nat) (o : Option (Nat × Fl)) (y : ByteArray) (W : World) (h : Disk B D N m o W) (hm : m ≤ 1000000) (hy : Letter y) (hz : ¬ zx = y) :
    Calls Try.prog 15 #[.pointer (some ⟨D, 0, none⟩), .string y] W fun e w' => ∃ n, e = .returned (.int .i64 n) ∧ Good B D N (m + 1) o W w' := by
  obtain ⟨s, F, vn, vs, vc, l, vb, hd, hi, hx⟩ := h
  refine (fcreate_any B D s F vn vs vc l vb y W hd (by have := hi.nc; omega) hi.nl hy).mono ?_
  rintro e w' ⟨rfl, hb, f, vn', vc', hf, hd'⟩
  have hfn : ¬ s.has f := fun hh => by have := lt_of_block (hd.files f hh).blk; omega
  refine ⟨0, rfl, hb, _, _, _, _, _, _, _, hd', (hi.file f ⟨⟨#[]⟩, 0⟩ (Nat.zero_le _) (Nat.zero_le _)).change (Or.inl ⟨f, rfl, hy, Or.inl rfl⟩) (lets_set hi.ln hy f), ?_⟩
  cases o with
  | none => trivial
  | some p =>
    have hx : Holds s F zx p.1 p.2 := hx
    have hpf : ¬ p.1 = f := fun e => hfn (e ▸ hx.has)
    obtain ⟨t1, t2⟩ := hold_set hi.ln.1 hx.inN hx.onlyN hz hpf
    exact (hx.file f ⟨⟨#[]⟩, 0⟩ hpf).change t1 t2 ⟨by show ¬ (⟨#[]⟩ : ByteArray) = ⟨#[120]⟩; decide, fun e => hz e.symm, fun e => hpf (Option.some.inj e).symm⟩
theorem act_syncDir (B D N m : Nat) (o : Option (Nat × Fl)) (W : World) (h : Disk B D N m o W) :
    Calls Try.prog 18 #[.pointer (some ⟨D, 0, none⟩)] W fun e w' => ∃ n, e = .returned (.int .i64 n) ∧ Good B D N (m + 1) o W w' := by
  obtain ⟨s, F, vn, vs, vc, l, vb, hd, hi, hx⟩ := h
  refine (fsyncDir_any B D s F vn vs vc l vb W hd hi.nl).mono ?_
  rintro e w' ⟨rfl, hb, vs', hd'⟩
  refine ⟨0, rfl, hb, _, _, _, _, _, _, _, hd', hi.safe, ?_⟩
  cases o with
  | none => trivial
  | some p => exact Holds.safe (show Holds s F zx p.1 p.2 from hx)
theorem not_x {s : Sk} {F : Nat → Fl} {N m : Nat} (hi : Inv s F N m) {y : ByteArray} {f : Nat} (hf : Sd.tget s.names y = some f) {p : Nat × Fl} (hx : Holds s F zx p.1 p.2) (hz : ¬ zx = y) : ¬ p.1 = f := fun e => by
  have h1 := (Sd.tget_mem hi.ln.1).1 hf
  rw [← e] at h1
  exact hz (hx.onlyN y h1).symm
theorem act_sync (B D N m : Nat) (o : Option (Nat × Fl)) (y : ByteArray) (W : World) (h : Disk B D N m o W) (hz : ¬ zx = y) :
    Calls Try.prog 17 #[.pointer (some ⟨D, 0, none⟩), .string y] W fun e w' => ∃ n, e = .returned (.int .i64 n) ∧ Good B D N (m + 1) o W w' := by
  obtain ⟨s, F, vn, vs, vc, l, vb, hd, hi, hx⟩ := h
  cases hf : Sd.tget s.names y with
  | none =>
    refine face_sync D y W _ ((sync_none B D s F vn vs vc l vb y W hd hi.nl hf).mono ?_)
    rintro e w' ⟨rfl, hb⟩
    exact ⟨11, rfl, 11, rfl, good_same hd hi hx hb⟩
  | some f =>
    refine (fsync_any B D s F vn vs vc l vb y f W hd hi.nl hf).mono ?_
    rintro e w' ⟨rfl, hb, v', hd'⟩
    refine ⟨0, rfl, hb, _, _, _, _, _, _, _, hd', (hi.file f ⟨(F f).bytes, (F f).bytes.size⟩ (hi.sz f) (Nat.le_refl _)).more, ?_⟩
    cases o with
    | none => trivial
    | some p => exact Holds.file (show Holds s F zx p.1 p.2 from hx) f _ (not_x hi hf hx hz)
theorem act_remove (B D N m : Nat) (o : Option (Nat × Fl)) (y : ByteArray) (W : World) (h : Disk B D N m o W) (hm : m ≤ 1000000) (hy : Letter y) (hz : ¬ zx = y) :
    Calls Try.prog 31 #[.pointer (some ⟨D, 0, none⟩), .string y] W fun e w' => ∃ n, e = .returned (.int .i64 n) ∧ Good B D N (m + 1) o W w' := by
  obtain ⟨s, F, vn, vs, vc, l, vb, hd, hi, hx⟩ := h
  cases hf : Sd.tget s.names y with
  | none =>
    refine face_remove D y W _ ((dremove_none B D s F vn vs vc l vb y W hd hi.nl hf).mono ?_)
    rintro e w' ⟨rfl, hb⟩
    exact ⟨11, rfl, 11, rfl, good_same hd hi hx hb⟩
  | some f =>
    refine face_remove D y W _ ((dremove_any B D s F vn vs vc l vb y f W hd (by have := hi.nc; omega) hi.nl hy hf).mono ?_)
    rintro e w' ⟨rfl, hb, vn', vc', hd'⟩
    refine ⟨0, rfl, 0, rfl, hb, _, _, _, _, _, _, _, hd', hi.change (Or.inr ⟨rfl, rfl, hy⟩) (lets_rem hi.ln y), ?_⟩
    cases o with
    | none => trivial
    | some p =>
      have hx : Holds s F zx p.1 p.2 := hx
      obtain ⟨t1, t2⟩ := hold_rem hi.ln.1 hx.inN hx.onlyN hz
      exact hx.change t1 t2 ⟨fun e => hz e.symm, by show ¬ (⟨#[]⟩ : ByteArray) = ⟨#[120]⟩; decide, fun e => by cases e⟩
theorem act_rename (B D N m : Nat) (o : Option (Nat × Fl)) (x y : ByteArray) (W : World) (h : Disk B D N m o W) (hm : m ≤ 1000000) (hxl : Letter x) (hy : Letter y) (hzx : ¬ zx = x) (hz : ¬ zx = y) :
    Calls Try.prog 30 #[.pointer (some ⟨D, 0, none⟩), .string x, .string y] W fun e w' => ∃ n, e = .returned (.int .i64 n) ∧ Good B D N (m + 1) o W w' := by
  obtain ⟨s, F, vn, vs, vc, l, vb, hd, hi, hx⟩ := h
  cases hf : Sd.tget s.names x with
  | none =>
    refine face_rename D x y W _ ((rename_none B D s F vn vs vc l vb x y W hd hi.nl hy hf).mono ?_)
    rintro e w' ⟨rfl, hb⟩
    exact ⟨11, rfl, 11, rfl, good_same hd hi hx hb⟩
  | some f =>
    by_cases hxy : x = y
    · subst hxy
      refine face_rename D x x W _ ((rename_same B D s F vn vs vc l vb x f W hd hi.nl hxl hf).mono ?_)
      rintro e w' ⟨rfl, hb⟩
      exact ⟨0, rfl, 0, rfl, good_same hd hi hx hb⟩
    · refine face_rename D x y W _ ((rename_any B D s F vn vs vc l vb x y f W hd (by have := hi.nc; omega) hi.nl hxl hy hxy hf).mono ?_)
      rintro e w' ⟨rfl, hb, vn', vc', hd'⟩
      refine ⟨0, rfl, 0, rfl, hb, _, _, _, _, _, _, _, hd', hi.change (Or.inl ⟨f, rfl, hy, Or.inr hxl⟩) (lets_set (lets_rem hi.ln x) hy f), ?_⟩
      cases o with
      | none => trivial
      | some p =>
        have hx : Holds s F zx p.1 p.2 := hx
        have hpf := not_x hi hf hx hzx
        obtain ⟨t1, t2⟩ := hold_rem hi.ln.1 hx.inN hx.onlyN hzx
        obtain ⟨u1, u2⟩ := hold_set (Sd.trem_sorted hi.ln.1 x) t1 t2 hz hpf
        exact hx.change u1 u2 ⟨fun e => hzx e.symm, fun e => hz e.symm, fun e => hpf (Option.some.inj e).symm⟩
theorem act_append (B D N m : Nat) (o : Option (Nat × Fl)) (y t : ByteArray) (W : World) (h : Disk B D N m o W) (hm : m ≤ 1000000) (hN : N ≤ 10000000) (ht : t.size ≤ 10) (hz : ¬ zx = y) :
    Calls Try.prog 16 #[.pointer (some ⟨D, 0, none⟩), .string y, .string t] W fun e w' => ∃ n, e = .returned (.int .i64 n) ∧ Good B D N (m + 1) o W w' := by
  obtain ⟨s, F, vn, vs, vc, l, vb, hd, hi, hx⟩ := h
  cases hf : Sd.tget s.names y with
  | none =>
    refine face_append D y t W _ ((append_none B D s F vn vs vc l vb y t W hd hi.nl hf).mono ?_)
    rintro e w' ⟨rfl, hb⟩
    exact ⟨11, rfl, 11, rfl, good_same hd hi hx hb⟩
  | some f =>
    have hu : used F s.names ≤ 123 * 20000000 := by
      have h1 : ∀ T : Sd.Tb, used F T ≤ T.length * 20000000 := fun T => by
        induction T with
        | nil => simp [used]
        | cons p r ih =>
          have := hi.sz p.2
          simp only [used, List.map_cons, List.sum_cons, List.length_cons, Nat.succ_mul] at ih ⊢
          omega
      exact Nat.le_trans (h1 s.names) (Nat.mul_le_mul_right _ (short_letters hi.ln.1 hi.ln.2))
    refine (fappend_any B D s F vn vs vc l vb y t f W hd hi.nl hf (fun p _ => Nat.le_trans (hi.sz p.2) (by omega)) (by omega) (by rw [hi.q]; omega)).mono ?_
    rintro e w' ⟨rfl, hb, v', hd'⟩
    refine ⟨0, rfl, hb, _, _, _, _, _, _, _, hd', hi.more.file f ⟨(F f).bytes ++ t, (F f).safe⟩ ?_ ?_, ?_⟩
    · show ((F f).bytes ++ t).size ≤ _
      rw [ByteArray.size_append]
      have := hi.sz f
      omega
    · show (F f).safe ≤ ((F f).bytes ++ t).size
      rw [ByteArray.size_append]
      have := hi.sf f
      omega
    cases o with
    | none => trivial
    | some p => exact Holds.file (show Holds s F zx p.1 p.2 from hx) f _ (not_x hi hf hx hz)
end Go.Proofs.Yteflnddphpjahaa.Dk
