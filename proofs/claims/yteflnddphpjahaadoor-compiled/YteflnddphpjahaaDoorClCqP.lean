import Derived.Test.YteflnddphpjahaaDoorClCqO
import Derived.Test.YteflnddphpjahaaDoorClCrB
import Derived.Test.YteflnddphpjahaaDoorClLineD
/-
  The program's splitLine.
-/
set_option linter.unusedVariables false
set_option linter.unusedSimpArgs false
set_option maxRecDepth 100000
namespace Go.Proofs.YteflnddphpjahaaDoor
open Go.RowKit

theorem psplit_any (s : ByteArray) (w : World) (hs : s.size ≤ 4000) (hg : SplitOk w) : Calls Tryd.prog 47 #[.string s, .string ⟨#[32]⟩] w fun e w' => e = .returned (.slice (some ⟨w.heap.size, 0, none⟩) (Sp.split s 32).length (Sp.split s 32).length) ∧ w' = w.alloc (.cells ((Sp.split s 32).map Value.string).toArray 9) := by
  obtain ⟨m, hm⟩ := hg
  have h := Tryd.strings_Split s ⟨#[32]⟩ m w (by omega) hm (by decide)
  rw [Sp.split_lib32, Sp.split_count32] at h
  exact h
theorem psplit10_any (s : ByteArray) (w : World) (hs : s.size ≤ 4000) (hg : SplitOk w) : Calls Tryd.prog 47 #[.string s, .string ⟨#[10]⟩] w fun e w' => e = .returned (.slice (some ⟨w.heap.size, 0, none⟩) (Sp.split s 10).length (Sp.split s 10).length) ∧ w' = w.alloc (.cells ((Sp.split s 10).map Value.string).toArray 9) := by
  obtain ⟨m, hm⟩ := hg
  have h := Tryd.strings_Split s ⟨#[10]⟩ m w (by omega) hm (by decide)
  rw [Sp.split_lib, Sp.split_count] at h
  exact h
theorem sat_alloc (w : World) (X : List ByteArray) : SAt (w.alloc (.cells (X.map Value.string).toArray 9)) (some ⟨w.heap.size, 0, none⟩) X := fun j hj => by
  refine ⟨w.heap.size, 0, rfl, by simp, ?_⟩
  rw [Nat.zero_add, World.cell?_alloc_mark]
  simp [List.getElem?_eq_getElem hj]
/-- What splitLine leaves. -/
def SLPost (P : List UInt8) (x : ByteArray) (w : World) (e : Ending) (w' : World) : Prop :=
  Below w.heap.size w w' ∧ ((¬ P <+: x.data.toList ∧ ∃ p n cap, e = .returned (.tuple #[.slice p n cap, .bool false])) ∨ (∃ rest : ByteArray, rest.size ≤ x.size ∧ x.data.toList = P ++ rest.data.toList ∧ ∃ g, w.heap.size ≤ g ∧ e = .returned (.tuple #[.slice (some ⟨g, 0, none⟩) (Sp.split rest 32).length (Sp.split rest 32).length, .bool true]) ∧ SAt w' (some ⟨g, 0, none⟩) (Sp.split rest 32)))
set_option maxHeartbeats 2000000 in
theorem splitLine_any (x nm : ByteArray) (w : World) (hx : x.size ≤ 2000) (hn : nm.size ≤ 10) (hg : SplitOk w) :
    Calls Tryd.prog 114 #[.string x, .string nm] w (SLPost (nm.data.toList ++ [58, 32]) x w) := by
  have hpd : (nm ++ ⟨#[58, 32]⟩ : ByteArray).data.toList = nm.data.toList ++ [58, 32] := by simp
  have hpz : (nm ++ ⟨#[58, 32]⟩ : ByteArray).size = nm.size + 2 := by rw [ByteArray.size_append]; rfl
  have HPD := hide hpd
  have HPZ := hide hpz
  have hpl : (nm ++ ⟨#[58, 32]⟩ : ByteArray).size ≤ 12 := by omega
  have hpre : (nm.data.toList ++ [58, 32]).length = nm.size + 2 := by
    rw [← unhide HPD, ← unhide HPZ]; exact Array.length_toList
  have HG := hide hg
  clear hpd hpz hg
  by_cases hp : (nm.data.toList ++ [58, 32]) <+: x.data.toList
  · have hle := Sp.pre_len hp
    rw [hpre] at hle
    have hr := Sp.pre_rest hp
    rw [hpre] at hr
    have ht : ((x.extract 0 (nm.size + 2)).toList == (nm ++ ⟨#[58, 32]⟩ : ByteArray).toList) = true := by
      rw [toL (nm ++ ⟨#[58, 32]⟩), unhide HPD, beq_iff_eq]
      have := (Sp.pre_take (x := x) (p := nm.data.toList ++ [58, 32]) (by omega)).2 hp
      rw [hpre] at this
      exact this
    have c1 : (nm.size : Int) + 2 ≤ (x.size : Int) := by omega
    have hrz : (x.extract (nm.size + 2) x.size).size ≤ x.size := by rw [ByteArray.size_extract]; omega
    have HC : Hid (∀ (e : Ending) (w' : World), (e = .returned (.slice (some ⟨w.heap.size, 0, none⟩) (Sp.split (x.extract (nm.size + 2) x.size) 32).length (Sp.split (x.extract (nm.size + 2) x.size) 32).length) ∧ w' = w.alloc (.cells ((Sp.split (x.extract (nm.size + 2) x.size) 32).map Value.string).toArray 9)) → SLPost (nm.data.toList ++ [58, 32]) x w (.returned (.tuple #[.slice (some ⟨w.heap.size, 0, none⟩) (Sp.split (x.extract (nm.size + 2) x.size) 32).length (Sp.split (x.extract (nm.size + 2) x.size) 32).length, .bool true])) w') := by
      show ∀ (e : Ending) (w' : World), _ → _
      rintro e w' ⟨rfl, rfl⟩
      exact ⟨(Below.refl _ _).alloc (Nat.le_refl _) _, Or.inr ⟨_, hrz, hr, w.heap.size, Nat.le_refl _, rfl, sat_alloc w _⟩⟩
    have hS := psplit_any (x.extract (nm.size + 2) x.size) w (by omega) (unhide HG)
    have HS := hide hS
    generalize hO : SLPost (nm.data.toList ++ [58, 32]) x w = O at HC ⊢
    clear hS hp hle hr hpre hrz hO
    go_enter Tryd.func114, Tryd.ntmps114
    go_wp2_with (first | (go_at_call 47; go_must (refine (unhide HS).mono ?_; rintro e w1 ⟨rfl, hw1⟩; have hfin := unhide HC _ w1 ⟨rfl, hw1⟩; clear hw1)) | go_in)
    exact hfin
  · have HC : Hid (∀ (X : List ByteArray) (w' : World), w' = w.alloc (.cells (X.map Value.string).toArray 9) → SLPost (nm.data.toList ++ [58, 32]) x w (.returned (.tuple #[.slice (some ⟨w.heap.size, 0, none⟩) X.length X.length, .bool false])) w') := by
      show ∀ (X : List ByteArray) (w' : World), _ → _
      rintro X w' rfl
      exact ⟨(Below.refl _ _).alloc (Nat.le_refl _) _, Or.inl ⟨hp, _, _, _, rfl⟩⟩
    have hS := psplit_any x w (by omega) (unhide HG)
    have HS := hide hS
    have ht : nm.size + 2 ≤ x.size → ((x.extract 0 (nm.size + 2)).toList == (nm ++ ⟨#[58, 32]⟩ : ByteArray).toList) = false := by
      intro hle
      rw [toL (nm ++ ⟨#[58, 32]⟩), unhide HPD]
      apply beq_eq_false_iff_ne.2
      intro he
      apply hp
      refine (Sp.pre_take (x := x) (p := nm.data.toList ++ [58, 32]) (by omega)).1 ?_
      rw [hpre]; exact he
    generalize hO : SLPost (nm.data.toList ++ [58, 32]) x w = O at HC ⊢
    clear hS hp hpre hO
    by_cases hle : nm.size + 2 ≤ x.size
    · have c1 : (nm.size : Int) + 2 ≤ (x.size : Int) := by omega
      have ht := ht hle
      go_enter Tryd.func114, Tryd.ntmps114
      go_wp2_with (first | (go_at_call 47; go_must (refine (unhide HS).mono ?_; rintro e w1 ⟨rfl, hw1⟩; have hfin := unhide HC _ w1 hw1; clear hw1)) | go_in)
      exact hfin
    · have c1 : ¬ (nm.size : Int) + 2 ≤ (x.size : Int) := by omega
      clear ht
      go_enter Tryd.func114, Tryd.ntmps114
      go_wp2_with (first | (go_at_call 47; go_must (refine (unhide HS).mono ?_; rintro e w1 ⟨rfl, hw1⟩; have hfin := unhide HC _ w1 hw1; clear hw1)) | go_in)
      exact hfin
end Go.Proofs.YteflnddphpjahaaDoor
