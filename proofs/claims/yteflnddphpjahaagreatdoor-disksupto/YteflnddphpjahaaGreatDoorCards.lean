/-
  DERIVED. GIVEN WITH THE SEED: THE CARDS: each row of YteflnddphpjahaaGreatDoorRows.lean that lists a variable, with what it lists TIED to the program's text (the seventh form; the later family's looks); each row that meets fmt, with fmt's text TOLD by the authors' own Lean function (tested against real Go, not proved from fmt's source: count such statements apart). THE CARD IS WHAT COUNTS. Prove the row's statement (the work); the ties are given (YteflnddphpjahaaGreatDoorTie.lean); close each card by the builder's one call (the guide's Derived/Test/ToyasCard.lean, 'card_holds'). Laid BY PROGRAM, IN A SANDBOX (cutbox-door.mjs). By AI agents, Wed Nov 11 2026. No macro, syntax, notation, axiom, sorry.
-/
import Derived.Test.YteflnddphpjahaaGreatDoorRows
import GoSem.ClaimSeven
namespace Go.Proofs.YteflnddphpjahaaGreatDoor
namespace Rows

/-- THE TIED CARD OF 'stridelaw.Ran'. -/
def ranCard : Claim7 := { stood := { row := ranRow, standIns := [], harness := (true, "e3cda91d3dd411be2f0bf148e6c5b10a10a75331e19af840f64e93a2f02d2ce3"), looks := true }, kinds := [], alts := [], laidByText := true, laidKinds := [.data, .data, .sentinel, .sentinel, .sentinel, .pinned], laidTests := true, laidLooks := .later }
def RanCardSaid : Prop := Claim7.holds Tryz.pinned (.plain (OpenSpec.ofChange ranSpec)) ranCard

/-- THE TIED CARD OF 'stridekeep.Reached'. -/
def reachedCard : Claim7 := { stood := { row := reachedRow, standIns := [], harness := (true, "e3cda91d3dd411be2f0bf148e6c5b10a10a75331e19af840f64e93a2f02d2ce3"), looks := true }, kinds := [], alts := [], laidByText := true, laidKinds := [.data, .data, .sentinel, .sentinel, .sentinel, .pinned], laidTests := true, laidLooks := .later }
def ReachedCardSaid : Prop := Claim7.holds Tryz.pinned (.plain (OpenSpec.ofChange reachedSpec)) reachedCard

/-- THE TIED CARD OF 'stridelaw.Disks'. -/
def disksCard : Claim7 := { stood := { row := disksRow, standIns := [], harness := (true, "e3cda91d3dd411be2f0bf148e6c5b10a10a75331e19af840f64e93a2f02d2ce3"), looks := true }, kinds := [], alts := [], laidByText := true, laidKinds := [.data, .data, .data, .data, .data, .sentinel, .sentinel, .sentinel, .pinned], laidTests := true, laidLooks := .later }
def DisksCardSaid : Prop := Claim7.holds Tryz.pinned (.plain (OpenSpec.ofChange disksSpec)) disksCard

/-- THE TIED CARD OF 'stridelaw.Resumed'. -/
def resumedCard : Claim7 := { stood := { row := resumedRow, standIns := [], harness := (true, "e3cda91d3dd411be2f0bf148e6c5b10a10a75331e19af840f64e93a2f02d2ce3"), looks := true }, kinds := [], alts := [], laidByText := true, laidKinds := [.data, .data, .data, .data, .data, .sentinel, .sentinel, .sentinel, .pinned], laidTests := true, laidLooks := .later }
def ResumedCardSaid : Prop := Claim7.holds Tryz.pinned (.plain (OpenSpec.ofChange resumedSpec)) resumedCard

/-- THE SECOND FORM's CARD OF 'stridelaw.Ran'. -/
def ranUptoCard : Claim7 := { stood := { row := ranUptoRow, standIns := [], harness := (true, "e3cda91d3dd411be2f0bf148e6c5b10a10a75331e19af840f64e93a2f02d2ce3"), looks := true }, kinds := [], alts := [], laidByText := true, laidKinds := [.data, .data, .sentinel, .sentinel, .sentinel, .pinned], laidTests := true, laidLooks := .later }
def RanUptoCardSaid : Prop := Claim7.holds Tryz.pinned (.plain (OpenSpec.upto ranSpec)) ranUptoCard

/-- THE SECOND FORM's CARD OF 'stridekeep.Reached'. -/
def reachedUptoCard : Claim7 := { stood := { row := reachedUptoRow, standIns := [], harness := (true, "e3cda91d3dd411be2f0bf148e6c5b10a10a75331e19af840f64e93a2f02d2ce3"), looks := true }, kinds := [], alts := [], laidByText := true, laidKinds := [.data, .data, .sentinel, .sentinel, .sentinel, .pinned], laidTests := true, laidLooks := .later }
def ReachedUptoCardSaid : Prop := Claim7.holds Tryz.pinned (.plain (OpenSpec.upto reachedSpec)) reachedUptoCard

/-- THE SECOND FORM's CARD OF 'stridelaw.Disks'. -/
def disksUptoCard : Claim7 := { stood := { row := disksUptoRow, standIns := [], harness := (true, "e3cda91d3dd411be2f0bf148e6c5b10a10a75331e19af840f64e93a2f02d2ce3"), looks := true }, kinds := [], alts := [], laidByText := true, laidKinds := [.data, .data, .data, .data, .data, .sentinel, .sentinel, .sentinel, .pinned], laidTests := true, laidLooks := .later }
def DisksUptoCardSaid : Prop := Claim7.holds Tryz.pinned (.plain (OpenSpec.upto disksSpec)) disksUptoCard

/-- THE SECOND FORM's CARD OF 'stridelaw.Resumed'. -/
def resumedUptoCard : Claim7 := { stood := { row := resumedUptoRow, standIns := [], harness := (true, "e3cda91d3dd411be2f0bf148e6c5b10a10a75331e19af840f64e93a2f02d2ce3"), looks := true }, kinds := [], alts := [], laidByText := true, laidKinds := [.data, .data, .data, .data, .data, .sentinel, .sentinel, .sentinel, .pinned], laidTests := true, laidLooks := .later }
def ResumedUptoCardSaid : Prop := Claim7.holds Tryz.pinned (.plain (OpenSpec.upto resumedSpec)) resumedUptoCard
end Rows
end Go.Proofs.YteflnddphpjahaaGreatDoor
