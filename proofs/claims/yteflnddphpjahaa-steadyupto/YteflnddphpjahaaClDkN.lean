import Derived.Test.YteflnddphpjahaaClDkM
import Derived.Test.YteflnddphpjahaaClDkE
/-
  A disk: Remove, Rename.
-/
set_option linter.unusedVariables false
set_option linter.unusedSimpArgs false
set_option maxRecDepth 100000
namespace Go.Proofs.Yteflnddphpjahaa.Dk
open Go.RowKit

/-- What a change by an operation leaves. -/
def OpPost (B D : Nat) (s : Sk) (F : Nat → Fl) (vs : Value) (l : Int) (vb : Nat → Value) (T' : Sd.Tb) (c : Ch) (w : World) (e : Ending) (w' : World) : Prop :=
  e = .returned (.int .i64 0) ∧ Below B w w' ∧ ∃ vn' vc', DiskAt w' B D { s with names := T', chs := s.chs ++ [c] } F vn' vs vc' l vb

set_option maxHeartbeats 1000000 in
theorem dremove_any (B D : Nat) (s : Sk) (F : Nat → Fl) (vn vs vc : Value) (l : Int) (vb : Nat → Value) (y : ByteArray) (f : Nat) (w : World) (h : DiskAt w B D s F vn vs vc l vb) (hl : s.chs.length ≤ 10000000) (hl2 : s.names.length ≤ 100000) (hy : Letter y) (hf : Sd.tget s.names y = some f) :
    Calls Try.prog 46 #[.pointer (some ⟨D, 0, none⟩), .string y] w (OpPost B D s F vs l vb (Sd.trem s.names y) ⟨y, ⟨#[]⟩, none⟩ w) := by
  have HD := hide h
  have hon := operatesOn_any B D s F vn vs vc l vb y w h hl2
  have hmem := (Sd.tget_mem h.sn).1 hf
  have hth : Sd.thas s.names y = true := Sd.thas_mem.2 ⟨f, hmem⟩
  rw [hf, hth] at hon
  have e0 : onErr true = 0 := rfl
  rw [e0] at hon
  unfold optPtr fptr at hon
  have hone := hy.one
  have hBw : B ≤ w.heap.size := by have := h.ge; have := lt_of_block h.blk; omega
  clear h hmem hth hf e0
  go_enter Try.func46, Try.ntmps46
  go_wp2_with fail
  refine hon.mono ?_
  rintro e w1 ⟨rfl, hb1⟩
  clear hon
  go_wp2_with fail
  refine (removed_any y _ (by omega)).mono ?_
  rintro e w2 ⟨rfl, hb2⟩
  have hb12 : Below w.heap.size w w2 := hb1.trans (hb2.mono hb1.size)
  have hd2 := (unhide HD).below hb12
  have hsub : ∀ k, ({ s with names := Sd.trem s.names y, chs := s.chs ++ [⟨y, ⟨#[]⟩, none⟩] } : Sk).has k → s.has k := fun k hk => by
    rcases hk with ⟨a, ha⟩ | hk | ⟨c, hc, e⟩
    · exact Or.inl ⟨a, Sd.trem_mem ha⟩
    · exact Or.inr (Or.inl hk)
    · rcases List.mem_append.1 hc with hc | hc
      · exact Or.inr (Or.inr ⟨c, hc, e⟩)
      · have : c = ⟨y, ⟨#[]⟩, none⟩ := List.mem_singleton.1 hc
        subst this
        cases e
  have hchg := change_any B D s F vn vs vc l vb (Sd.trem s.names y) ⟨y, ⟨#[]⟩, none⟩ w2 hd2 hl
    (fun W hW => makeIn_rem D _ _ vn s.names y W ((hd2.tabN hl2).below hW) hd2.neN (letter_ne hy)) (Sd.trem_sorted hd2.sn y)
    (fun k hk => hd2.files k (hsub k hk)) (fun k k' hk hk' => hd2.fapart k k' (hsub k hk) (hsub k' hk'))
  have HB := hide hb12
  clear hd2 hsub hb12 hb1 hb2
  go_wp2_with fail
  refine hchg.mono ?_
  rintro e w3 ⟨rfl, hb3, vn', vc', hd3⟩
  have H := hide (And.intro hb3 hd3)
  clear hchg hb3 hd3
  go_wp2
  go_ret
  exact ⟨rfl, ((unhide HB).mono hBw).trans (unhide H).1, vn', vc', (unhide H).2⟩

set_option maxHeartbeats 1000000 in
theorem dremove_none (B D : Nat) (s : Sk) (F : Nat → Fl) (vn vs vc : Value) (l : Int) (vb : Nat → Value) (y : ByteArray) (w : World) (h : DiskAt w B D s F vn vs vc l vb) (hl2 : s.names.length ≤ 100000) (hf : Sd.tget s.names y = none) :
    Calls Try.prog 46 #[.pointer (some ⟨D, 0, none⟩), .string y] w fun e w' => e = .returned (.int .i64 11) ∧ Below w.heap.size w w' := by
  have hon := operatesOn_any B D s F vn vs vc l vb y w h hl2
  have hth : Sd.thas s.names y = false := by
    cases hq : Sd.thas s.names y with
    | false => rfl
    | true => obtain ⟨_, _, e2⟩ := Sd.tget_at h.sn hq; rw [hf] at e2; cases e2
  rw [hf, hth] at hon
  have e0 : onErr false = 11 := rfl
  rw [e0] at hon
  unfold optPtr at hon
  clear h hth hf e0
  go_enter Try.func46, Try.ntmps46
  go_wp2_with fail
  refine hon.mono ?_
  rintro e w1 ⟨rfl, hb1⟩
  go_wp2
  go_ret
  exact ⟨rfl, hb1⟩

set_option maxHeartbeats 1000000 in
theorem rename_any (B D : Nat) (s : Sk) (F : Nat → Fl) (vn vs vc : Value) (l : Int) (vb : Nat → Value) (x y : ByteArray) (f : Nat) (w : World) (h : DiskAt w B D s F vn vs vc l vb) (hl : s.chs.length ≤ 10000000) (hl2 : s.names.length ≤ 100000) (hx : Letter x) (hy : Letter y) (hxy : ¬ x = y) (hf : Sd.tget s.names x = some f) :
    Calls Try.prog 45 #[.pointer (some ⟨D, 0, none⟩), .string x, .string y] w (OpPost B D s F vs l vb (Sd.tset (Sd.trem s.names x) y f) ⟨x, y, some f⟩ w) := by
  have HD := hide h
  have hop := operates_any D s.quota vn vs vc l w h.blk
  have hget := get_any D 1 _ _ vn s.names x w (h.tabN hl2)
  have hmem := (Sd.tget_mem h.sn).1 hf
  have hth : Sd.thas s.names x = true := Sd.thas_mem.2 ⟨f, hmem⟩
  rw [hf, hth] at hget
  unfold optPtr fptr at hget
  have hne : (x.toList == y.toList) = false := ba_ne hxy
  have h1 := hx.one
  have h2 := hy.one
  have HM := hide (show s.has f from Or.inl ⟨x, hmem⟩)
  have hBw : B ≤ w.heap.size := by have := h.ge; have := lt_of_block h.blk; omega
  clear h hmem hth hf
  go_enter Try.func45, Try.ntmps45
  go_wp2_with fail
  refine hop.mono ?_
  rintro e w0 ⟨rfl, rfl⟩
  go_wp2_with fail
  refine (isName_any y _ hy).mono ?_
  rintro e w0' ⟨rfl, hw0⟩
  obtain rfl := hw0.symm
  go_wp2_with fail
  refine hget.mono ?_
  rintro e w1 ⟨rfl, hb1⟩
  clear hget
  have hrn := fun W => renamed_any x y f W (by omega) (by omega)
  unfold fptr at hrn
  go_wp2_with fail
  refine (hrn _).mono ?_
  rintro e w2 ⟨rfl, hb2⟩
  have hb12 : Below w0.heap.size w0 w2 := hb1.trans (hb2.mono hb1.size)
  have hd2 := (unhide HD).below hb12
  have hsub : ∀ k, ({ s with names := Sd.tset (Sd.trem s.names x) y f, chs := s.chs ++ [⟨x, y, some f⟩] } : Sk).has k → s.has k := fun k hk => by
    rcases hk with ⟨a, ha⟩ | hk | ⟨c, hc, e⟩
    · rcases Sd.tset_mem ha with e | h3
      · have : k = f := congrArg Prod.snd e
        rw [this]; exact unhide HM
      · exact Or.inl ⟨a, Sd.trem_mem h3⟩
    · exact Or.inr (Or.inl hk)
    · rcases List.mem_append.1 hc with hc | hc
      · exact Or.inr (Or.inr ⟨c, hc, e⟩)
      · have : c = ⟨x, y, some f⟩ := List.mem_singleton.1 hc
        subst this
        have : f = k := Option.some.inj e
        rw [← this]; exact unhide HM
  have hchg := change_any B D s F vn vs vc l vb (Sd.tset (Sd.trem s.names x) y f) ⟨x, y, some f⟩ w2 hd2 hl
    (fun W hW => makeIn_both D _ _ vn s.names x y f W ((hd2.tabN hl2).below hW) hd2.neN (letter_ne hx) (letter_ne hy)) (Sd.tset_sorted (Sd.trem_sorted hd2.sn x) y f)
    (fun k hk => hd2.files k (hsub k hk)) (fun k k' hk hk' => hd2.fapart k k' (hsub k hk) (hsub k' hk'))
  have HB := hide hb12
  clear hd2 hsub hb12 hb1 hb2
  go_wp2_with fail
  refine hchg.mono ?_
  rintro e w3 ⟨rfl, hb3, vn', vc', hd3⟩
  have H := hide (And.intro hb3 hd3)
  clear hchg hb3 hd3
  go_wp2
  go_ret
  exact ⟨rfl, ((unhide HB).mono hBw).trans (unhide H).1, vn', vc', (unhide H).2⟩
end Go.Proofs.Yteflnddphpjahaa.Dk
