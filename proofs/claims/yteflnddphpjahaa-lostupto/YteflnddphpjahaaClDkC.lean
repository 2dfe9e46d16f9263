import Derived.Test.YteflnddphpjahaaClDkB
/-
  A disk: Create.
-/
set_option linter.unusedVariables false
set_option linter.unusedSimpArgs false
set_option maxRecDepth 100000
namespace Go.Proofs.Yteflnddphpjahaa.Dk
open Go.RowKit

def upd {α : Type} (g : Nat → α) (f : Nat) (x : α) : Nat → α := fun k => if k = f then x else g k
theorem upd_same {α : Type} (g : Nat → α) (f : Nat) (x : α) : upd g f x f = x := if_pos rfl
theorem upd_other {α : Type} (g : Nat → α) {f k : Nat} (x : α) (h : k ≠ f) : upd g f x k = g k := if_neg h
theorem DiskAt.below {w w' : World} {B D : Nat} {s : Sk} {F : Nat → Fl} {vn vs vc : Value} {l : Int} {vb : Nat → Value} (h : DiskAt w B D s F vn vs vc l vb) (hb : Below w.heap.size w w') : DiskAt w' B D s F vn vs vc l vb :=
  ⟨h.ge, (hb.block D (lt_of_block h.blk)).trans h.blk, own_below h.rn hb, own_below h.rs hb, own_below h.rc hb, h.sn, h.ss, h.apart, fun f hf => ⟨(h.files f hf).ge, (hb.block f (lt_of_block (h.files f hf).blk)).trans (h.files f hf).blk, own_below (h.files f hf).row hb⟩, h.fapart⟩
/-- Other accounts of files that the disk has not got. -/
theorem DiskAt.upd {w : World} {B D : Nat} {s : Sk} {F : Nat → Fl} {vn vs vc : Value} {l : Int} {vb : Nat → Value} (h : DiskAt w B D s F vn vs vc l vb) {f : Nat} (hf : ¬ s.has f) (x : Fl) (v : Value) : DiskAt w B D s (upd F f x) vn vs vc l (upd vb f v) := by
  have hne : ∀ k, s.has k → k ≠ f := fun k hk e => hf (e ▸ hk)
  refine ⟨h.ge, h.blk, h.rn, h.rs, h.rc, h.sn, h.ss, h.apart, fun k hk => ?_, fun k k' hk hk' hkk g hg => ?_⟩
  · rw [upd_other _ _ (hne k hk), upd_other _ _ (hne k hk)]; exact h.files k hk
  · rw [upd_other _ _ (hne k hk)] at hg
    rw [upd_other _ _ (hne k' hk')]
    exact h.fapart k k' hk hk' hkk g hg
theorem letter_ne {s : ByteArray} (h : Letter s) : (s.toList == []) = false := by
  apply Bool.eq_false_iff.2
  intro hh
  have h1 : s.toList = [] := eq_of_beq hh
  rw [ByteArray.toList_eq] at h1
  have : s.data.toList.length = 1 := by rw [Array.length_toList]; exact h.one
  rw [h1] at this; cases this

def CrPost (B D : Nat) (s : Sk) (F : Nat → Fl) (vs : Value) (l : Int) (vb : Nat → Value) (y : ByteArray) (w : World) (e : Ending) (w' : World) : Prop :=
  e = .returned (.int .i64 0) ∧ Below B w w' ∧ ∃ f vn' vc', w.heap.size ≤ f ∧ DiskAt w' B D { s with names := Sd.tset s.names y f, chs := s.chs ++ [⟨⟨#[]⟩, y, some f⟩] } (upd F f ⟨⟨#[]⟩, 0⟩) vn' vs vc' l (upd vb f (.slice none 0 0))

set_option maxHeartbeats 1000000 in
theorem create_any (B D : Nat) (s : Sk) (F : Nat → Fl) (vn vs vc : Value) (l : Int) (vb : Nat → Value) (y : ByteArray) (w : World) (h : DiskAt w B D s F vn vs vc l vb) (hl : s.chs.length ≤ 10000000) (hl2 : s.names.length ≤ 100000) (hy : Letter y) :
    Calls Try.prog 32 #[.pointer (some ⟨D, 0, none⟩), .string y] w (CrPost B D s F vs l vb y w) := by
  have HD := hide h
  have hop := operates_any D s.quota vn vs vc l w h.blk
  have hone := hy.one
  clear h
  go_enter Try.func32, Try.ntmps32
  go_wp2_with fail
  refine hop.mono ?_
  rintro e w0 ⟨rfl, rfl⟩
  go_wp2_with fail
  refine (isName_any y _ hy).mono ?_
  rintro e w0' ⟨rfl, hw0⟩
  obtain rfl := hw0.symm
  go_wp2_with fail
  refine (created_any y _ (by omega)).mono ?_
  rintro e w1 ⟨f, rfl, hb1, hf, hfb⟩
  have hd := unhide HD
  have hfn : ¬ s.has f := fun hh => by have := lt_of_block (hd.files f hh).blk; omega
  have hd1 := (hd.below hb1).upd hfn ⟨⟨#[]⟩, 0⟩ (.slice none 0 0)
  have hBw : B ≤ w0.heap.size := by have := hd.ge; have := lt_of_block hd.blk; omega
  have hfile : FileAt w1 B f ⟨⟨#[]⟩, 0⟩ (.slice none 0 0) := ⟨by omega, hfb, World.ownsRow_nil _ _ _ _⟩
  have hcases : ∀ k, ({ s with names := Sd.tset s.names y f, chs := s.chs ++ [⟨⟨#[]⟩, y, some f⟩] } : Sk).has k → k = f ∨ s.has k := fun k hk => by
    rcases hk with ⟨a, ha⟩ | hk | ⟨c, hc, e⟩
    · rcases Sd.tset_mem ha with e | h2
      · exact Or.inl (congrArg Prod.snd e)
      · exact Or.inr (Or.inl ⟨a, h2⟩)
    · exact Or.inr (Or.inr (Or.inl hk))
    · rcases List.mem_append.1 hc with hc | hc
      · exact Or.inr (Or.inr (Or.inr ⟨c, hc, e⟩))
      · have : c = ⟨⟨#[]⟩, y, some f⟩ := List.mem_singleton.1 hc
        subst this
        exact Or.inl (Option.some.inj e).symm
  have hchg := change_any B D s (upd F f ⟨⟨#[]⟩, 0⟩) vn vs vc l (upd vb f (.slice none 0 0)) (Sd.tset s.names y f) ⟨⟨#[]⟩, y, some f⟩ w1 hd1 hl
    (fun W hW => makeIn_set D _ _ vn s.names y f W ((hd1.tabN hl2).below hW) hd1.neN (letter_ne hy)) (Sd.tset_sorted hd.sn y f)
    (fun k hk => by
      rcases hcases k hk with rfl | h2
      · rw [upd_same, upd_same]; exact hfile
      · exact hd1.files k h2)
    (fun k k' hk hk' hkk g hg => by
      rcases hcases k hk with rfl | h2
      · rw [upd_same] at hg; simp [Value.ownBlock] at hg
      · rcases hcases k' hk' with rfl | h3
        · rw [upd_same]; simp [Value.ownBlock]
        · exact hd1.fapart k k' h2 h3 hkk g hg)
  have HB1 := hide hb1
  have HF := hide hf
  clear hd hd1 hfile hcases hfb hb1 hf hfn
  go_wp2_with fail
  refine hchg.mono ?_
  rintro e w2 ⟨rfl, hb2, vn', vc', hd2⟩
  have HB2 := hide hb2
  have HD2 := hide hd2
  clear hchg hb2 hd2 hop
  go_wp2
  go_ret
  exact ⟨rfl, ((unhide HB1).mono hBw).trans (unhide HB2), f, vn', vc', unhide HF, unhide HD2⟩

/-- The face's Create. -/
theorem fcreate_any (B D : Nat) (s : Sk) (F : Nat → Fl) (vn vs vc : Value) (l : Int) (vb : Nat → Value) (y : ByteArray) (w : World) (h : DiskAt w B D s F vn vs vc l vb) (hl : s.chs.length ≤ 10000000) (hl2 : s.names.length ≤ 100000) (hy : Letter y) :
    Calls Try.prog 15 #[.pointer (some ⟨D, 0, none⟩), .string y] w (CrPost B D s F vs l vb y w) := by
  have hc := create_any B D s F vn vs vc l vb y w h hl hl2 hy
  clear h hl hl2 hy
  go_enter Try.func15, Try.ntmps15
  go_wp2_with fail
  refine hc.mono ?_
  rintro e w1 ⟨rfl, h⟩
  have H := hide h
  clear h hc
  go_wp2
  go_ret
  exact ⟨rfl, unhide H⟩
end Go.Proofs.Yteflnddphpjahaa.Dk
