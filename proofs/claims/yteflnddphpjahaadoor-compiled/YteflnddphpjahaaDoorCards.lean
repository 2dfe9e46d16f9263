/-
  DERIVED. GIVEN WITH THE SEED: THE CARDS: each row of YteflnddphpjahaaDoorRows.lean that lists a variable, with what it lists TIED to the program's text (the seventh form; the later family's looks); each row that meets fmt, with fmt's text TOLD by the authors' own Lean function (tested against real Go, not proved from fmt's source: count such statements apart). THE CARD IS WHAT COUNTS. Prove the row's statement (the work); the ties are given (YteflnddphpjahaaDoorTie.lean); close each card by the builder's one call (the guide's Derived/Test/ToyasCard.lean, 'card_holds'). Laid BY PROGRAM, IN A SANDBOX (cutbox-door.mjs). By AI agents, Wed Nov 11 2026. No macro, syntax, notation, axiom, sorry.
-/
import Derived.Test.YteflnddphpjahaaDoorRows
import GoSem.ClaimSeven
namespace Go.Proofs.YteflnddphpjahaaDoor
namespace Rows

/-- THE TIED CARD OF 'stridelaw.Parsed'. -/
def parsedCard : Claim7 := { stood := { row := parsedRow, standIns := [], harness := (true, "03c3483c84eaf89cc00f1113930bf1f9f71812251047df16d3c2288f620ef626"), looks := false }, kinds := [], alts := [], laidByText := true, laidKinds := [.data, .pinned], laidTests := true, laidLooks := .later }
def ParsedCardSaid : Prop := Claim7.holds Tryd.pinned (.plain (OpenSpec.ofChange parsedSpec)) parsedCard

/-- THE TIED CARD OF 'stridelaw.Compiled'. -/
def compiledCard : Claim7 := { stood := { row := compiledRow, standIns := [], harness := (true, "03c3483c84eaf89cc00f1113930bf1f9f71812251047df16d3c2288f620ef626"), looks := false }, kinds := [], alts := [], laidByText := true, laidKinds := [.data, .data, .sentinel, .sentinel, .sentinel, .pinned], laidTests := true, laidLooks := .later }
def CompiledCardSaid : Prop := Claim7.holds Tryd.pinned (.plain (OpenSpec.ofChange compiledSpec)) compiledCard

/-- THE TIED CARD OF 'stridekeep.Runed'. -/
def runedCard : Claim7 := { stood := { row := runedRow, standIns := [], harness := (true, "03c3483c84eaf89cc00f1113930bf1f9f71812251047df16d3c2288f620ef626"), looks := false }, kinds := [], alts := [], laidByText := true, laidKinds := [.data, .pinned], laidTests := true, laidLooks := .later }
def RunedCardSaid : Prop := Claim7.holds Tryd.pinned (.plain (OpenSpec.ofChange runedSpec)) runedCard

/-- THE SECOND FORM's CARD OF 'stridelaw.Parsed'. -/
def parsedUptoCard : Claim7 := { stood := { row := parsedUptoRow, standIns := [], harness := (true, "03c3483c84eaf89cc00f1113930bf1f9f71812251047df16d3c2288f620ef626"), looks := false }, kinds := [], alts := [], laidByText := true, laidKinds := [.data, .pinned], laidTests := true, laidLooks := .later }
def ParsedUptoCardSaid : Prop := Claim7.holds Tryd.pinned (.plain (OpenSpec.upto parsedSpec)) parsedUptoCard

/-- THE SECOND FORM's CARD OF 'stridelaw.Compiled'. -/
def compiledUptoCard : Claim7 := { stood := { row := compiledUptoRow, standIns := [], harness := (true, "03c3483c84eaf89cc00f1113930bf1f9f71812251047df16d3c2288f620ef626"), looks := false }, kinds := [], alts := [], laidByText := true, laidKinds := [.data, .data, .sentinel, .sentinel, .sentinel, .pinned], laidTests := true, laidLooks := .later }
def CompiledUptoCardSaid : Prop := Claim7.holds Tryd.pinned (.plain (OpenSpec.upto compiledSpec)) compiledUptoCard

/-- THE SECOND FORM's CARD OF 'stridekeep.Runed'. -/
def runedUptoCard : Claim7 := { stood := { row := runedUptoRow, standIns := [], harness := (true, "03c3483c84eaf89cc00f1113930bf1f9f71812251047df16d3c2288f620ef626"), looks := false }, kinds := [], alts := [], laidByText := true, laidKinds := [.data, .pinned], laidTests := true, laidLooks := .later }
def RunedUptoCardSaid : Prop := Claim7.holds Tryd.pinned (.plain (OpenSpec.upto runedSpec)) runedUptoCard
end Rows
end Go.Proofs.YteflnddphpjahaaDoor
