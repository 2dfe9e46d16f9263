import Derived.Test.YteflnddphpjahaaDoorClCpJ
/-
  The program's words: the table.
-/
set_option linter.unusedVariables false
set_option linter.unusedSimpArgs false
set_option maxRecDepth 100000
namespace Go.Proofs.YteflnddphpjahaaDoor
open Go.RowKit

/-- The words' names, in the table's order. -/
def Sp.nms : List (List UInt8) := [[118, 97, 108, 117, 101], [111, 108, 100], [105, 110], [103, 111, 116], [115, 116, 101, 112], [105, 100], [100, 101, 103], [97, 108, 108], [119, 101, 105, 103, 104, 116], [43], [45], [42], [47], [37], [60], [61], [109, 105, 110], [109, 97, 120], [100, 117, 112], [100, 114, 111, 112], [115, 119, 97, 112], [111, 118, 101, 114], [63], [91], [93]]
/-- The words' functions, in the table's order. -/
def wfn : List Nat := [81, 83, 84, 85, 86, 87, 88, 89, 90, 91, 93, 94, 95, 97, 98, 100, 101, 102, 103, 105, 106, 107, 108, 110, 112]
def wordsV : Array Value := #[.string ⟨#[118, 97, 108, 117, 101]⟩, .bool false, .func (.func 81) #[] #[],
  .string ⟨#[111, 108, 100]⟩, .bool false, .func (.func 83) #[] #[],
  .string ⟨#[105, 110]⟩, .bool false, .func (.func 84) #[] #[],
  .string ⟨#[103, 111, 116]⟩, .bool false, .func (.func 85) #[] #[],
  .string ⟨#[115, 116, 101, 112]⟩, .bool false, .func (.func 86) #[] #[],
  .string ⟨#[105, 100]⟩, .bool false, .func (.func 87) #[] #[],
  .string ⟨#[100, 101, 103]⟩, .bool false, .func (.func 88) #[] #[],
  .string ⟨#[97, 108, 108]⟩, .bool false, .func (.func 89) #[] #[],
  .string ⟨#[119, 101, 105, 103, 104, 116]⟩, .bool true, .func (.func 90) #[] #[],
  .string ⟨#[43]⟩, .bool false, .func (.func 91) #[] #[],
  .string ⟨#[45]⟩, .bool false, .func (.func 93) #[] #[],
  .string ⟨#[42]⟩, .bool false, .func (.func 94) #[] #[],
  .string ⟨#[47]⟩, .bool false, .func (.func 95) #[] #[],
  .string ⟨#[37]⟩, .bool false, .func (.func 97) #[] #[],
  .string ⟨#[60]⟩, .bool false, .func (.func 98) #[] #[],
  .string ⟨#[61]⟩, .bool false, .func (.func 100) #[] #[],
  .string ⟨#[109, 105, 110]⟩, .bool false, .func (.func 101) #[] #[],
  .string ⟨#[109, 97, 120]⟩, .bool false, .func (.func 102) #[] #[],
  .string ⟨#[100, 117, 112]⟩, .bool false, .func (.func 103) #[] #[],
  .string ⟨#[100, 114, 111, 112]⟩, .bool false, .func (.func 105) #[] #[],
  .string ⟨#[115, 119, 97, 112]⟩, .bool false, .func (.func 106) #[] #[],
  .string ⟨#[111, 118, 101, 114]⟩, .bool false, .func (.func 107) #[] #[],
  .string ⟨#[63]⟩, .bool false, .func (.func 108) #[] #[],
  .string ⟨#[91]⟩, .bool false, .func (.func 110) #[] #[],
  .string ⟨#[93]⟩, .bool false, .func (.func 112) #[] #[]]

def WordsAt (b : Nat) (w : World) : Prop := w.heap[b]? = some (.cells wordsV 172)

set_option maxHeartbeats 1000000 in
theorem words_any (w : World) : Calls Tryd.prog 63 #[] w fun e w' => e = .returned (.slice (some ⟨w.heap.size, 0, none⟩) 25 25) ∧ Below w.heap.size w w' ∧ WordsAt w.heap.size w' := by
  go_enter Tryd.func63, Tryd.ntmps63
  go_wp2
  exact bodyPost_ret (v := .slice (some ⟨w.heap.size, 0, none⟩) 25 25) (by simp [results, Tryd.results63, go_sem]) rfl ⟨rfl, (Below.refl _ _).alloc (Nat.le_refl _) _, Array.getElem?_push_size⟩

/-- The function of the word in place i, and whether it needs a weight. -/
def wordNm (i : Nat) : ByteArray := ⟨⟨Sp.nms[i]!⟩⟩
def wordWt (i : Nat) : Bool := i == 8
def wordFn (i : Nat) : Value := .func (.func (wfn[i]!)) #[] #[]
theorem wv_nm : (i : Nat) → i < 25 → wordsV[3 * i]? = some (.string (wordNm i))
  | 0, _ => rfl
  | 1, _ => rfl
  | 2, _ => rfl
  | 3, _ => rfl
  | 4, _ => rfl
  | 5, _ => rfl
  | 6, _ => rfl
  | 7, _ => rfl
  | 8, _ => rfl
  | 9, _ => rfl
  | 10, _ => rfl
  | 11, _ => rfl
  | 12, _ => rfl
  | 13, _ => rfl
  | 14, _ => rfl
  | 15, _ => rfl
  | 16, _ => rfl
  | 17, _ => rfl
  | 18, _ => rfl
  | 19, _ => rfl
  | 20, _ => rfl
  | 21, _ => rfl
  | 22, _ => rfl
  | 23, _ => rfl
  | 24, _ => rfl
  | n + 25, h => absurd h (by omega)
theorem wv_wt : (i : Nat) → i < 25 → wordsV[3 * i + 1]? = some (.bool (wordWt i))
  | 0, _ => rfl
  | 1, _ => rfl
  | 2, _ => rfl
  | 3, _ => rfl
  | 4, _ => rfl
  | 5, _ => rfl
  | 6, _ => rfl
  | 7, _ => rfl
  | 8, _ => rfl
  | 9, _ => rfl
  | 10, _ => rfl
  | 11, _ => rfl
  | 12, _ => rfl
  | 13, _ => rfl
  | 14, _ => rfl
  | 15, _ => rfl
  | 16, _ => rfl
  | 17, _ => rfl
  | 18, _ => rfl
  | 19, _ => rfl
  | 20, _ => rfl
  | 21, _ => rfl
  | 22, _ => rfl
  | 23, _ => rfl
  | 24, _ => rfl
  | n + 25, h => absurd h (by omega)
theorem wv_fn : (i : Nat) → i < 25 → wordsV[3 * i + 2]? = some (wordFn i)
  | 0, _ => rfl
  | 1, _ => rfl
  | 2, _ => rfl
  | 3, _ => rfl
  | 4, _ => rfl
  | 5, _ => rfl
  | 6, _ => rfl
  | 7, _ => rfl
  | 8, _ => rfl
  | 9, _ => rfl
  | 10, _ => rfl
  | 11, _ => rfl
  | 12, _ => rfl
  | 13, _ => rfl
  | 14, _ => rfl
  | 15, _ => rfl
  | 16, _ => rfl
  | 17, _ => rfl
  | 18, _ => rfl
  | 19, _ => rfl
  | 20, _ => rfl
  | 21, _ => rfl
  | 22, _ => rfl
  | 23, _ => rfl
  | 24, _ => rfl
  | n + 25, h => absurd h (by omega)
theorem words_cells {b : Nat} {w : World} (h : WordsAt b w) {i : Nat} (hi : i < 25) :
    w.cell? ⟨b, 3 * i, none⟩ = some (.string (wordNm i)) ∧ w.cell? ⟨b, 3 * i + 1, none⟩ = some (.bool (wordWt i)) ∧ w.cell? ⟨b, 3 * i + 2, none⟩ = some (wordFn i) := by
  unfold WordsAt at h
  refine ⟨?_, ?_, ?_⟩ <;> simp only [World.cell?, h]
  · exact wv_nm i hi
  · exact wv_wt i hi
  · exact wv_fn i hi
theorem WordsAt.below {b : Nat} {w w' : World} (h : WordsAt b w) (hb : Below w.heap.size w w') : WordsAt b w' := (hb.block _ (lt_of_block h)).trans h
end Go.Proofs.YteflnddphpjahaaDoor
