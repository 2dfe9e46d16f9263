/-
  DERIVED. GIVEN WITH THE SEED: THE CARDS: each row of YtgkkdpegcieakaaGreatDoorRows.lean that lists a variable, with what it lists TIED to the program's text (the seventh form; the later family's looks); each row that meets fmt, with fmt's text TOLD by the authors' own Lean function (tested against real Go, not proved from fmt's source: count such statements apart). THE CARD IS WHAT COUNTS. Prove the row's statement (the work); the ties are given (YtgkkdpegcieakaaGreatDoorTie.lean); close each card by the builder's one call (the guide's Derived/Test/ToyasCard.lean, 'card_holds'). Laid BY PROGRAM, IN A SANDBOX (cutbox-door.mjs). By AI agents, Wed Nov 11 2026. No macro, syntax, notation, axiom, sorry.
-/
import Derived.Test.YtgkkdpegcieakaaGreatDoorRows
import GoSem.ClaimSeven
namespace Go.Proofs.YtgkkdpegcieakaaGreatDoor
namespace Rows

/-- THE TIED CARD OF 'stridekeep.Healed'. -/
def healedCard : Claim7 := { stood := { row := healedRow, standIns := [], harness := (true, "d2c0c49b9c7aaea3570b23a1e6caf723283f3c9a79cebd3c2472c06ae6dc3d91"), looks := true }, kinds := [], alts := [], laidByText := true, laidKinds := [.data, .data, .data, .data, .data, .sentinel, .sentinel, .sentinel, .pinned], laidTests := true, laidLooks := .later }
def HealedCardSaid : Prop := Claim7.holds Tryz.pinned (.plain (OpenSpec.ofChange healedSpec)) healedCard

/-- THE TIED CARD OF 'stridekeep.Full'. -/
def fullCard : Claim7 := { stood := { row := fullRow, standIns := [], harness := (true, "d2c0c49b9c7aaea3570b23a1e6caf723283f3c9a79cebd3c2472c06ae6dc3d91"), looks := true }, kinds := [], alts := [], laidByText := true, laidKinds := [.data, .data, .data, .data, .data, .sentinel, .sentinel, .sentinel, .pinned], laidTests := true, laidLooks := .later }
def FullCardSaid : Prop := Claim7.holds Tryz.pinned (.plain (OpenSpec.ofChange fullSpec)) fullCard

/-- THE SECOND FORM's CARD OF 'stridekeep.Healed'. -/
def healedUptoCard : Claim7 := { stood := { row := healedUptoRow, standIns := [], harness := (true, "d2c0c49b9c7aaea3570b23a1e6caf723283f3c9a79cebd3c2472c06ae6dc3d91"), looks := true }, kinds := [], alts := [], laidByText := true, laidKinds := [.data, .data, .data, .data, .data, .sentinel, .sentinel, .sentinel, .pinned], laidTests := true, laidLooks := .later }
def HealedUptoCardSaid : Prop := Claim7.holds Tryz.pinned (.plain (OpenSpec.upto healedSpec)) healedUptoCard

/-- THE SECOND FORM's CARD OF 'stridekeep.Full'. -/
def fullUptoCard : Claim7 := { stood := { row := fullUptoRow, standIns := [], harness := (true, "d2c0c49b9c7aaea3570b23a1e6caf723283f3c9a79cebd3c2472c06ae6dc3d91"), looks := true }, kinds := [], alts := [], laidByText := true, laidKinds := [.data, .data, .data, .data, .data, .sentinel, .sentinel, .sentinel, .pinned], laidTests := true, laidLooks := .later }
def FullUptoCardSaid : Prop := Claim7.holds Tryz.pinned (.plain (OpenSpec.upto fullSpec)) fullUptoCard
end Rows
end Go.Proofs.YtgkkdpegcieakaaGreatDoor
