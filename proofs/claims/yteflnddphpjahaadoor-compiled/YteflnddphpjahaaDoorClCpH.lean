import Derived.Test.YteflnddphpjahaaDoorClCpG
import Derived.Test.YteflnddphpjahaaDoorClPlJtoPlO
import Derived.Test.YteflnddphpjahaaDoorClGMem
/-
  strideref.head.
-/
set_option linter.unusedVariables false
set_option linter.unusedSimpArgs false
set_option maxRecDepth 100000
namespace Go.Proofs.YteflnddphpjahaaDoor
open Go.RowKit

namespace Sp
def headsS : List UInt8 := [32, 110, 101, 119, 32, 103, 111, 32, 109, 115, 103, 32, 104, 97, 108, 116, 32, 103, 105, 118, 101, 32, 98, 121, 32, 97, 108, 108, 32]
def headsL : List (List UInt8) := [[110, 101, 119], [103, 111], [109, 115, 103], [104, 97, 108, 116], [103, 105, 118, 101], [98, 121], [97, 108, 108]]
theorem heads_at (i : Nat) (hi : i < 7) : ∃ b : ByteArray, (split ⟨#[32, 110, 101, 119, 32, 103, 111, 32, 109, 115, 103, 32, 104, 97, 108, 116, 32, 103, 105, 118, 101, 32, 98, 121, 32, 97, 108, 108, 32]⟩ 32)[i + 1]? = some b ∧ b.data.toList = headsL.getD i [] := by
  have h := split_spl ⟨#[32, 110, 101, 119, 32, 103, 111, 32, 109, 115, 103, 32, 104, 97, 108, 116, 32, 103, 105, 118, 101, 32, 98, 121, 32, 97, 108, 108, 32]⟩ 32
  have h2 : (split ⟨#[32, 110, 101, 119, 32, 103, 111, 32, 109, 115, 103, 32, 104, 97, 108, 116, 32, 103, 105, 118, 101, 32, 98, 121, 32, 97, 108, 108, 32]⟩ 32).map (·.data.toList) = [] :: (headsL ++ [[]]) := h.trans (by decide)
  have h3 := congrArg (fun l => l[i + 1]?) h2
  simp only [List.getElem?_map, List.getElem?_cons_succ] at h3
  rw [List.getElem?_append_left (by show i < 7; exact hi)] at h3
  have h4 : headsL[i]? = some (headsL.getD i []) := by
    rw [List.getD_eq_getElem?_getD, List.getElem?_eq_getElem (show i < headsL.length by show i < 7; exact hi)]; rfl
  rw [h4] at h3
  cases hb : (split ⟨#[32, 110, 101, 119, 32, 103, 111, 32, 109, 115, 103, 32, 104, 97, 108, 116, 32, 103, 105, 118, 101, 32, 98, 121, 32, 97, 108, 108, 32]⟩ 32)[i + 1]? with
  | none => rw [hb] at h3; cases h3
  | some b => rw [hb] at h3; injection h3 with h3; exact ⟨b, rfl, h3⟩
/-- What line i begins with. -/
def hd (i : Nat) : List UInt8 := headsL.getD i [] ++ [58]
end Sp

set_option maxHeartbeats 1000000 in
theorem head_any (i : Nat) (w : World) (hi : i < 7) : Calls Tryd.prog 32 #[.int .i64 i] w fun e w' => (∃ b : ByteArray, e = .returned (.string b) ∧ b.data.toList = Sp.hd i) ∧ Below w.heap.size w w' := by
  obtain ⟨bb, h1, h2⟩ := Sp.heads_at i hi
  have H1 := hide h1
  have H2 := hide h2
  have hz : bb.size ≤ 100 := by
    have e : bb.size = bb.data.toList.length := by simp
    rw [e, h2]
    have hh : ∀ j, j < 7 → (Sp.headsL.getD j []).length ≤ 100 := by decide
    exact hh i hi
  have hlen : i + 1 < (Sp.split ⟨#[32, 110, 101, 119, 32, 103, 111, 32, 109, 115, 103, 32, 104, 97, 108, 116, 32, 103, 105, 118, 101, 32, 98, 121, 32, 97, 108, 108, 32]⟩ 32).length := by
    rcases Nat.lt_or_ge (i + 1) (Sp.split ⟨#[32, 110, 101, 119, 32, 103, 111, 32, 109, 115, 103, 32, 104, 97, 108, 116, 32, 103, 105, 118, 101, 32, 98, 121, 32, 97, 108, 108, 32]⟩ 32).length with h | h
    · exact h
    · rw [List.getElem?_eq_none h] at h1; cases h1
  clear h1 h2
  obtain ⟨n, HN⟩ : ∃ n, Hid ((Sp.split ⟨#[32, 110, 101, 119, 32, 103, 111, 32, 109, 115, 103, 32, 104, 97, 108, 116, 32, 103, 105, 118, 101, 32, 98, 121, 32, 97, 108, 108, 32]⟩ 32).length = n) := ⟨_, rfl⟩
  rw [unhide HN] at hlen
  have hlz : (i : Int) + 1 < (n : Int) := by omega
  have hp0 : (0 : Int) ≤ (i : Int) + 1 := by omega
  have hp1 : ((i : Int) + 1).toNat = i + 1 := by omega
  go_enter Tryd.func32, Tryd.ntmps32
  go_wp2_with fail
  refine (split_any ⟨#[32, 110, 101, 119, 32, 103, 111, 32, 109, 115, 103, 32, 104, 97, 108, 116, 32, 103, 105, 118, 101, 32, 98, 121, 32, 97, 108, 108, 32]⟩ 32 32 rfl (by omega) _ (by decide)).mono ?_
  rintro e w1 ⟨v, rfl, ho, hb1⟩
  obtain ⟨p, cap, rfl, hcs⟩ := own_slice ho
  obtain ⟨g, rfl, _, _, hg⟩ := hcs (i + 1) (by rw [unhide HN]; omega)
  have hg' : w1.cell? ⟨g, i + 1, none⟩ = some (.string bb) := by rw [hg, List.getElem?_map, unhide H1]; rfl
  rw [unhide HN]
  clear hg hcs ho
  go_wp2
  go_ret
  exact ⟨⟨_, rfl, by rw [ByteArray.data_append, Array.toList_append, unhide H2]; rfl⟩, hb1⟩
end Go.Proofs.YteflnddphpjahaaDoor
