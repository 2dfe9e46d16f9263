/-
  No cell of these rows narrows 'for every input' (looked for: loops, veiled, ifaces, maps, wideKeys, modest, calm, conditions, laid).
  DERIVED. THE GIVEN ROWS OF THIS SEAT. 5 by the template 'for every input the law returns true; each argument reads behind the call as it read before'; 0 by the template 'total and deterministic' (their statements: YteflnddphpjahaaTotals.lean).
  GIVEN WITH THE SEED: the statements are not yours to turn. If you find one false, say at which input.
  Laid BY PROGRAM, IN A SANDBOX (cutbox-rows.mjs): the forced cells as the released guide's own fill.sh prints them over the translation 60af7602251a0e49… (all of the seat's roots in one cut). By AI agents, Wed Nov 11 2026. No macro, syntax, notation, axiom, sorry.
-/
import Derived.Test.YteflnddphpjahaaChecked
import GoSem.Claim
import GoSem.ClaimJoined
import GoSem.ClaimMapViews
import Derived.JoinedTies
import Derived.KernelRfl
namespace Go.Proofs.Yteflnddphpjahaa
/- THE CELL 'sum', in the pinned program and in every row, IS THE sha256 OF THE DUMP (.gsa) THAT YteflnddphpjahaaProg.lean LOADS. Nothing in Lean hashes anything: it is a label: what it is worth is what the hold of that sum in a sandbox is worth. -/
noncomputable def Try.pinned : Pinned := { name := "yteflnddphpjahaa", sum := "60af7602251a0e49574e9239b34901d1e236fab53840156e46f499fbfdbbdae3", checked := Try.checked }
namespace Rows
def none {H : Type} : Left H := { results := [], args := [] }

/-- 'stridelaw.Listed': WHATEVER THE INPUT: true; the input reads as it did. -/
def listedSpec : ChangeSpec := { name := "listed", fn := fun _ => fun
  | [d] => { results := [.lit (.bool true)], args := [d] }
  | _ => none }
def listedRow : OpenClaim := { program := "yteflnddphpjahaa", sum := "60af7602251a0e49574e9239b34901d1e236fab53840156e46f499fbfdbbdae3", func := "stride/stridelaw.Listed", spec := "listed", apart := false }
def ListedSaid : Prop := listedRow.holds Try.pinned (OpenSpec.ofChange listedSpec)

/-- ITS FALSE NEIGHBOUR: 'it returns false'. Refute it at one input. -/
def listedWrong : ChangeSpec := { name := "listed", fn := fun _ => fun
  | [d] => { results := [.lit (.bool false)], args := [d] }
  | _ => none }
def ListedWrongFalsely : Prop := listedRow.holds Try.pinned (OpenSpec.ofChange listedWrong)

/-- 'stridelaw.Sealed': WHATEVER THE INPUT: true; the input reads as it did. -/
def sealedSpec : ChangeSpec := { name := "sealed", fn := fun _ => fun
  | [d] => { results := [.lit (.bool true)], args := [d] }
  | _ => none }
def sealedRow : OpenClaim := { program := "yteflnddphpjahaa", sum := "60af7602251a0e49574e9239b34901d1e236fab53840156e46f499fbfdbbdae3", func := "stride/stridelaw.Sealed", spec := "sealed", apart := false }
def SealedSaid : Prop := sealedRow.holds Try.pinned (OpenSpec.ofChange sealedSpec)

/-- ITS FALSE NEIGHBOUR: 'it returns false'. Refute it at one input. -/
def sealedWrong : ChangeSpec := { name := "sealed", fn := fun _ => fun
  | [d] => { results := [.lit (.bool false)], args := [d] }
  | _ => none }
def SealedWrongFalsely : Prop := sealedRow.holds Try.pinned (OpenSpec.ofChange sealedWrong)

/-- 'stridekeep.Turned': WHATEVER THE INPUT: true; the input reads as it did. -/
def turnedSpec : ChangeSpec := { name := "turned", fn := fun _ => fun
  | [d1, d2, d3] => { results := [.lit (.bool true)], args := [d1, d2, d3] }
  | _ => none }
def turnedRow : OpenClaim := { program := "yteflnddphpjahaa", sum := "60af7602251a0e49574e9239b34901d1e236fab53840156e46f499fbfdbbdae3", func := "stride/stridekeep.Turned", spec := "turned", apart := false }
def TurnedSaid : Prop := turnedRow.holds Try.pinned (OpenSpec.ofChange turnedSpec)

/-- ITS FALSE NEIGHBOUR: 'it returns false'. Refute it at one input. -/
def turnedWrong : ChangeSpec := { name := "turned", fn := fun _ => fun
  | [d1, d2, d3] => { results := [.lit (.bool false)], args := [d1, d2, d3] }
  | _ => none }
def TurnedWrongFalsely : Prop := turnedRow.holds Try.pinned (OpenSpec.ofChange turnedWrong)

/-- 'stridekeep.Steady': WHATEVER THE INPUT: true; the input reads as it did. -/
def steadySpec : ChangeSpec := { name := "steady", fn := fun _ => fun
  | [d1, d2, d3, d4, d5, d6] => { results := [.lit (.bool true)], args := [d1, d2, d3, d4, d5, d6] }
  | _ => none }
def steadyRow : OpenClaim := { program := "yteflnddphpjahaa", sum := "60af7602251a0e49574e9239b34901d1e236fab53840156e46f499fbfdbbdae3", func := "stride/stridekeep.Steady", spec := "steady", inPlace := ["slices.overlaps[stride/ordered.entry[string, *stride/disks.file]]"], unfollowed := true, recurses := true, apart := false }
def SteadySaid : Prop := steadyRow.holds Try.pinned (OpenSpec.ofChange steadySpec)

/-- ITS FALSE NEIGHBOUR: 'it returns false'. Refute it at one input. -/
def steadyWrong : ChangeSpec := { name := "steady", fn := fun _ => fun
  | [d1, d2, d3, d4, d5, d6] => { results := [.lit (.bool false)], args := [d1, d2, d3, d4, d5, d6] }
  | _ => none }
def SteadyWrongFalsely : Prop := steadyRow.holds Try.pinned (OpenSpec.ofChange steadyWrong)

/-- 'stridekeep.Lost': WHATEVER THE INPUT: true; the input reads as it did. -/
def lostSpec : ChangeSpec := { name := "lost", fn := fun _ => fun
  | [d1, d2, d3, d4] => { results := [.lit (.bool true)], args := [d1, d2, d3, d4] }
  | _ => none }
def lostRow : OpenClaim := { program := "yteflnddphpjahaa", sum := "60af7602251a0e49574e9239b34901d1e236fab53840156e46f499fbfdbbdae3", func := "stride/stridekeep.Lost", spec := "lost", inPlace := ["slices.overlaps[stride/ordered.entry[string, *stride/disks.file]]"], unfollowed := true, recurses := true, apart := false }
def LostSaid : Prop := lostRow.holds Try.pinned (OpenSpec.ofChange lostSpec)

/-- ITS FALSE NEIGHBOUR: 'it returns false'. Refute it at one input. -/
def lostWrong : ChangeSpec := { name := "lost", fn := fun _ => fun
  | [d1, d2, d3, d4] => { results := [.lit (.bool false)], args := [d1, d2, d3, d4] }
  | _ => none }
def LostWrongFalsely : Prop := lostRow.holds Try.pinned (OpenSpec.ofChange lostWrong)

/- THE SECOND FORM. 'bulk': how many values and letters a reading holds, each counted each time it is reached (what is shared counts as often as it is met; a slice's spare places count too). A statement '..UptoSaid' is the law's where the arguments, and the package variables that the reading takes, are together of bulk at most 1048576: NARROWER than '..Said'. Prove '..Said' where nothing that the law and all that it calls make is longer than what came in: it says more and counts as full. Else prove '..UptoSaid'. A law counts once. -/
mutual
def uptoBulk {H : Type} : DataW H → Nat
  | .lit (.string bytes) => bytes.length + 1
  | .lit _ => 1
  | .nil => 1
  | .ptr d => uptoBulk d + 1
  | .slice elems spare => uptoBulkAll elems + uptoBulkAll spare + 1
  | .agg parts => uptoBulkAll parts + 1
  | .iface _ d => uptoBulk d + 1
  | .map entries => uptoBulkEntries entries + 1
  | .held _ => 1
def uptoBulkAll {H : Type} : List (DataW H) → Nat
  | [] => 0
  | d :: r => uptoBulk d + uptoBulkAll r
def uptoBulkEntries {H : Type} : List (Lit × DataW H) → Nat
  | [] => 0
  | x :: r => uptoBulkEntry x + uptoBulkEntries r
def uptoBulkEntry {H : Type} : Lit × DataW H → Nat
  | (.string bytes, d) => bytes.length + uptoBulk d + 1
  | (_, d) => uptoBulk d + 1
 end
def uptoSmall : (H : Type) → List (DataW H) → Bool := fun _ ds => decide (uptoBulkAll ds ≤ 1048576)
def OpenSpec.upto (s : _root_.Go.ChangeSpec) : _root_.Go.OpenSpec := { _root_.Go.OpenSpec.ofChange s with cond := some uptoSmall }

/-- 'stridelaw.Listed', WHERE WHAT IT READS IS OF BULK AT MOST 1048576: true; the input reads as it did. -/
def listedUptoRow : OpenClaim := { program := "yteflnddphpjahaa", sum := "60af7602251a0e49574e9239b34901d1e236fab53840156e46f499fbfdbbdae3", func := "stride/stridelaw.Listed", spec := "listed", apart := false, narrowed := true }
def ListedUptoSaid : Prop := listedUptoRow.holds Try.pinned (OpenSpec.upto listedSpec)

/-- 'stridelaw.Sealed', WHERE WHAT IT READS IS OF BULK AT MOST 1048576: true; the input reads as it did. -/
def sealedUptoRow : OpenClaim := { program := "yteflnddphpjahaa", sum := "60af7602251a0e49574e9239b34901d1e236fab53840156e46f499fbfdbbdae3", func := "stride/stridelaw.Sealed", spec := "sealed", apart := false, narrowed := true }
def SealedUptoSaid : Prop := sealedUptoRow.holds Try.pinned (OpenSpec.upto sealedSpec)

/-- 'stridekeep.Turned', WHERE WHAT IT READS IS OF BULK AT MOST 1048576: true; the input reads as it did. -/
def turnedUptoRow : OpenClaim := { program := "yteflnddphpjahaa", sum := "60af7602251a0e49574e9239b34901d1e236fab53840156e46f499fbfdbbdae3", func := "stride/stridekeep.Turned", spec := "turned", apart := false, narrowed := true }
def TurnedUptoSaid : Prop := turnedUptoRow.holds Try.pinned (OpenSpec.upto turnedSpec)

/-- 'stridekeep.Steady', WHERE WHAT IT READS IS OF BULK AT MOST 1048576: true; the input reads as it did. -/
def steadyUptoRow : OpenClaim := { program := "yteflnddphpjahaa", sum := "60af7602251a0e49574e9239b34901d1e236fab53840156e46f499fbfdbbdae3", func := "stride/stridekeep.Steady", spec := "steady", inPlace := ["slices.overlaps[stride/ordered.entry[string, *stride/disks.file]]"], unfollowed := true, recurses := true, apart := false, narrowed := true }
def SteadyUptoSaid : Prop := steadyUptoRow.holds Try.pinned (OpenSpec.upto steadySpec)

/-- 'stridekeep.Lost', WHERE WHAT IT READS IS OF BULK AT MOST 1048576: true; the input reads as it did. -/
def lostUptoRow : OpenClaim := { program := "yteflnddphpjahaa", sum := "60af7602251a0e49574e9239b34901d1e236fab53840156e46f499fbfdbbdae3", func := "stride/stridekeep.Lost", spec := "lost", inPlace := ["slices.overlaps[stride/ordered.entry[string, *stride/disks.file]]"], unfollowed := true, recurses := true, apart := false, narrowed := true }
def LostUptoSaid : Prop := lostUptoRow.holds Try.pinned (OpenSpec.upto lostSpec)

end Rows
end Go.Proofs.Yteflnddphpjahaa
