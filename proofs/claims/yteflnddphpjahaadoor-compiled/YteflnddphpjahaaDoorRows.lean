/-
  NARROWER THAN 'FOR EVERY INPUT', by the rows' own cells (each row's printed sentence says how): Parsed: laid · Compiled: laid · Runed: laid.
  DERIVED. THE GIVEN ROWS OF THIS SEAT. 3 by the template 'for every input the law returns true; each argument reads behind the call as it read before'; 0 by the template 'total and deterministic' (their statements: YteflnddphpjahaaDoorTotals.lean).
  GIVEN WITH THE SEED: the statements are not yours to turn. If you find one false, say at which input.
  Laid BY PROGRAM, IN A SANDBOX (cutbox-rows.mjs): the forced cells as the released guide's own fill.sh prints them over the translation 593c284fe233b1cb… (all of the seat's roots in one cut). By AI agents, Wed Nov 11 2026. No macro, syntax, notation, axiom, sorry.
-/
import Derived.Test.YteflnddphpjahaaDoorChecked
import GoSem.PinnedTables
import GoSem.Claim
import GoSem.ClaimJoined
import GoSem.ClaimMapViews
import Derived.JoinedTies
import Derived.KernelRfl
namespace Go.Proofs.YteflnddphpjahaaDoor
/- THE CELL 'sum', in the pinned program and in every row, IS THE sha256 OF THE DUMP (.gsa) THAT YteflnddphpjahaaDoorProg.lean LOADS. Nothing in Lean hashes anything: it is a label: what it is worth is what the hold of that sum in a sandbox is worth. -/
noncomputable def Tryd.pinned : Pinned := { name := "yteflnddphpjahaadoor", sum := "593c284fe233b1cb56887ee5e0087107191887dd4a4c72e7815b32200bc12c89", checked := Tryd.checked }
namespace Rows
def none {H : Type} : Left H := { results := [], args := [] }

/- WHAT THE LISTED PACKAGE-LEVEL VARIABLES READ AS WHEN THE CALL BEGINS. Each datum BY PROGRAM (the guide's laid-datum.mjs) off the statement by which the dump's own 'gosem.cut.vars' lays the variable. In a bare row this is a premise. The card (YteflnddphpjahaaDoorCards.lean) ties it to the program's text. -/
def laid_unicode_utf8_acceptRanges {H : Type} : DataW H := .agg [.agg [.lit (.int .u8 128), .lit (.int .u8 191)], .agg [.lit (.int .u8 160), .lit (.int .u8 191)], .agg [.lit (.int .u8 128), .lit (.int .u8 159)], .agg [.lit (.int .u8 144), .lit (.int .u8 191)], .agg [.lit (.int .u8 128), .lit (.int .u8 143)], .agg [.lit (.int .u8 0), .lit (.int .u8 0)], .agg [.lit (.int .u8 0), .lit (.int .u8 0)], .agg [.lit (.int .u8 0), .lit (.int .u8 0)], .agg [.lit (.int .u8 0), .lit (.int .u8 0)], .agg [.lit (.int .u8 0), .lit (.int .u8 0)], .agg [.lit (.int .u8 0), .lit (.int .u8 0)], .agg [.lit (.int .u8 0), .lit (.int .u8 0)], .agg [.lit (.int .u8 0), .lit (.int .u8 0)], .agg [.lit (.int .u8 0), .lit (.int .u8 0)], .agg [.lit (.int .u8 0), .lit (.int .u8 0)], .agg [.lit (.int .u8 0), .lit (.int .u8 0)]]
/-- One of Go's own tables, pinned by name: the form's constant. -/
def laid_unicode_utf8_first : DataW Unit := Go.Pinned.utf8First
def laid_stride_programs_shapes {H : Type} : DataW H := .agg [.agg [.lit (.string [110, 101, 119]), .lit (.bool true), .lit (.bool false)], .agg [.lit (.string [103, 111]), .lit (.bool true), .lit (.bool false)], .agg [.lit (.string [109, 115, 103]), .lit (.bool true), .lit (.bool true)], .agg [.lit (.string [104, 97, 108, 116]), .lit (.bool true), .lit (.bool false)], .agg [.lit (.string [103, 105, 118, 101]), .lit (.bool true), .lit (.bool false)], .agg [.lit (.string [98, 121]), .lit (.bool false), .lit (.bool false)], .agg [.lit (.string [97, 108, 108]), .lit (.bool false), .lit (.bool false)]]
def laid_stride_programs_errStack {H : Type} : DataW H := .iface "*errors.errorString" (.ptr (.agg [.lit (.string [116, 104, 101, 32, 99, 111, 100, 101, 32, 100, 111, 101, 115, 32, 110, 111, 116, 32, 107, 101, 101, 112, 32, 116, 111, 32, 116, 104, 101, 32, 115, 116, 97, 99, 107])]))
def laid_stride_programs_errZero {H : Type} : DataW H := .iface "*errors.errorString" (.ptr (.agg [.lit (.string [97, 32, 100, 105, 118, 105, 115, 105, 111, 110, 32, 98, 121, 32, 48])]))
def laid_stride_programs_errFuel {H : Type} : DataW H := .iface "*errors.errorString" (.ptr (.agg [.lit (.string [109, 111, 114, 101, 32, 119, 111, 114, 100, 115, 32, 116, 104, 97, 110, 32, 109, 97, 121, 32, 98, 101, 32, 100, 111, 110, 101])]))

/-- 'stridelaw.Parsed': WHATEVER THE INPUT: true; the input reads as it did. -/
def parsedSpec : ChangeSpec := { name := "parsed", fn := fun _ => fun
  | [d] => { results := [.lit (.bool true)], args := [d] }
  | _ => none }
def parsedRow : OpenClaim := { program := "yteflnddphpjahaadoor", sum := "593c284fe233b1cb56887ee5e0087107191887dd4a4c72e7815b32200bc12c89", func := "stride/stridelaw.Parsed", spec := "parsed", inPlace := ["internal/bytealg.CountString", "internal/bytealg.IndexByteString", "internal/bytealg.IndexString", "slices.overlaps[stride/ordered.entry[rune, int64]]"], unfollowed := true, recurses := true, named := ["unicode/utf8.first", "unicode/utf8.acceptRanges", "internal/bytealg.MaxLen"], apart := false, laid := [("unicode/utf8.acceptRanges", laid_unicode_utf8_acceptRanges), ("unicode/utf8.first", laid_unicode_utf8_first)] }
def ParsedSaid : Prop := parsedRow.holds Tryd.pinned (OpenSpec.ofChange parsedSpec)

/-- ITS FALSE NEIGHBOUR: 'it returns false'. Refute it at one input. -/
def parsedWrong : ChangeSpec := { name := "parsed", fn := fun _ => fun
  | [d] => { results := [.lit (.bool false)], args := [d] }
  | _ => none }
def ParsedWrongFalsely : Prop := parsedRow.holds Tryd.pinned (OpenSpec.ofChange parsedWrong)

/-- 'stridelaw.Compiled': WHATEVER THE INPUT: true; the input reads as it did. -/
def compiledSpec : ChangeSpec := { name := "compiled", fn := fun _ => fun
  | [d] => { results := [.lit (.bool true)], args := [d] }
  | _ => none }
def compiledRow : OpenClaim := { program := "yteflnddphpjahaadoor", sum := "593c284fe233b1cb56887ee5e0087107191887dd4a4c72e7815b32200bc12c89", func := "stride/stridelaw.Compiled", spec := "compiled", inPlace := ["internal/bytealg.CountString", "internal/bytealg.IndexByteString", "internal/bytealg.IndexString"], unfollowed := true, recurses := true, named := ["stride/programs.shapes", "unicode/utf8.first", "unicode/utf8.acceptRanges", "internal/bytealg.MaxLen", "stride/programs.errStack", "stride/programs.errZero", "stride/programs.errFuel"], apart := false, laid := [("unicode/utf8.acceptRanges", laid_unicode_utf8_acceptRanges), ("stride/programs.shapes", laid_stride_programs_shapes), ("stride/programs.errStack", laid_stride_programs_errStack), ("stride/programs.errZero", laid_stride_programs_errZero), ("stride/programs.errFuel", laid_stride_programs_errFuel), ("unicode/utf8.first", laid_unicode_utf8_first)] }
def CompiledSaid : Prop := compiledRow.holds Tryd.pinned (OpenSpec.ofChange compiledSpec)

/-- ITS FALSE NEIGHBOUR: 'it returns false'. Refute it at one input. -/
def compiledWrong : ChangeSpec := { name := "compiled", fn := fun _ => fun
  | [d] => { results := [.lit (.bool false)], args := [d] }
  | _ => none }
def CompiledWrongFalsely : Prop := compiledRow.holds Tryd.pinned (OpenSpec.ofChange compiledWrong)

/-- 'stridekeep.Runed': WHATEVER THE INPUT: true; the input reads as it did. -/
def runedSpec : ChangeSpec := { name := "runed", fn := fun _ => fun
  | [d1, d2] => { results := [.lit (.bool true)], args := [d1, d2] }
  | _ => none }
def runedRow : OpenClaim := { program := "yteflnddphpjahaadoor", sum := "593c284fe233b1cb56887ee5e0087107191887dd4a4c72e7815b32200bc12c89", func := "stride/stridekeep.Runed", spec := "runed", inPlace := ["internal/bytealg.CountString", "internal/bytealg.IndexByteString", "internal/bytealg.IndexString", "slices.overlaps[stride/ordered.entry[rune, int64]]"], unfollowed := true, recurses := true, named := ["unicode/utf8.first", "unicode/utf8.acceptRanges", "internal/bytealg.MaxLen"], apart := false, laid := [("unicode/utf8.acceptRanges", laid_unicode_utf8_acceptRanges), ("unicode/utf8.first", laid_unicode_utf8_first)] }
def RunedSaid : Prop := runedRow.holds Tryd.pinned (OpenSpec.ofChange runedSpec)

/-- ITS FALSE NEIGHBOUR: 'it returns false'. Refute it at one input. -/
def runedWrong : ChangeSpec := { name := "runed", fn := fun _ => fun
  | [d1, d2] => { results := [.lit (.bool false)], args := [d1, d2] }
  | _ => none }
def RunedWrongFalsely : Prop := runedRow.holds Tryd.pinned (OpenSpec.ofChange runedWrong)

/- THE SECOND FORM. 'bulk': how many values and letters a reading holds, each counted each time it is reached (what is shared counts as often as it is met; a slice's spare places count too). A statement '..UptoSaid' is the law's where the arguments, and the package variables that the reading takes, are together of bulk at most 1048576: NARROWER than '..Said'. Prove '..Said' where nothing that the law and all that it calls make is longer than what came in: it says more and counts as full. Else prove '..UptoSaid'. A law counts once. -/
mutual
def uptoBulk {H : Type} : DataW H → Nat
  | .lit (.string bytes) => bytes.length + 1
  | .lit _ => 1
  | .nil => 1
  | .ptr d => uptoBulk d + 1
  | .slice elems spare => uptoBulkAll elems + uptoBulkAll spare + 1
  | .agg parts => uptoBulkAll parts + 1
  | .iface _ d => uptoBulk d + 1
  | .map entries => uptoBulkEntries entries + 1
  | .held _ => 1
def uptoBulkAll {H : Type} : List (DataW H) → Nat
  | [] => 0
  | d :: r => uptoBulk d + uptoBulkAll r
def uptoBulkEntries {H : Type} : List (Lit × DataW H) → Nat
  | [] => 0
  | x :: r => uptoBulkEntry x + uptoBulkEntries r
def uptoBulkEntry {H : Type} : Lit × DataW H → Nat
  | (.string bytes, d) => bytes.length + uptoBulk d + 1
  | (_, d) => uptoBulk d + 1
 end
def uptoSmall : (H : Type) → List (DataW H) → Bool := fun _ ds => decide (uptoBulkAll ds ≤ 1048576)
def OpenSpec.upto (s : _root_.Go.ChangeSpec) : _root_.Go.OpenSpec := { _root_.Go.OpenSpec.ofChange s with cond := some uptoSmall }

/-- 'stridelaw.Parsed', WHERE WHAT IT READS IS OF BULK AT MOST 1048576: true; the input reads as it did. -/
def parsedUptoRow : OpenClaim := { program := "yteflnddphpjahaadoor", sum := "593c284fe233b1cb56887ee5e0087107191887dd4a4c72e7815b32200bc12c89", func := "stride/stridelaw.Parsed", spec := "parsed", inPlace := ["internal/bytealg.CountString", "internal/bytealg.IndexByteString", "internal/bytealg.IndexString", "slices.overlaps[stride/ordered.entry[rune, int64]]"], unfollowed := true, recurses := true, named := ["unicode/utf8.first", "unicode/utf8.acceptRanges", "internal/bytealg.MaxLen"], apart := false, laid := [("unicode/utf8.acceptRanges", laid_unicode_utf8_acceptRanges), ("unicode/utf8.first", laid_unicode_utf8_first)], narrowed := true }
def ParsedUptoSaid : Prop := parsedUptoRow.holds Tryd.pinned (OpenSpec.upto parsedSpec)

/-- 'stridelaw.Compiled', WHERE WHAT IT READS IS OF BULK AT MOST 1048576: true; the input reads as it did. -/
def compiledUptoRow : OpenClaim := { program := "yteflnddphpjahaadoor", sum := "593c284fe233b1cb56887ee5e0087107191887dd4a4c72e7815b32200bc12c89", func := "stride/stridelaw.Compiled", spec := "compiled", inPlace := ["internal/bytealg.CountString", "internal/bytealg.IndexByteString", "internal/bytealg.IndexString"], unfollowed := true, recurses := true, named := ["stride/programs.shapes", "unicode/utf8.first", "unicode/utf8.acceptRanges", "internal/bytealg.MaxLen", "stride/programs.errStack", "stride/programs.errZero", "stride/programs.errFuel"], apart := false, laid := [("unicode/utf8.acceptRanges", laid_unicode_utf8_acceptRanges), ("stride/programs.shapes", laid_stride_programs_shapes), ("stride/programs.errStack", laid_stride_programs_errStack), ("stride/programs.errZero", laid_stride_programs_errZero), ("stride/programs.errFuel", laid_stride_programs_errFuel), ("unicode/utf8.first", laid_unicode_utf8_first)], narrowed := true }
def CompiledUptoSaid : Prop := compiledUptoRow.holds Tryd.pinned (OpenSpec.upto compiledSpec)

/-- 'stridekeep.Runed', WHERE WHAT IT READS IS OF BULK AT MOST 1048576: true; the input reads as it did. -/
def runedUptoRow : OpenClaim := { program := "yteflnddphpjahaadoor", sum := "593c284fe233b1cb56887ee5e0087107191887dd4a4c72e7815b32200bc12c89", func := "stride/stridekeep.Runed", spec := "runed", inPlace := ["internal/bytealg.CountString", "internal/bytealg.IndexByteString", "internal/bytealg.IndexString", "slices.overlaps[stride/ordered.entry[rune, int64]]"], unfollowed := true, recurses := true, named := ["unicode/utf8.first", "unicode/utf8.acceptRanges", "internal/bytealg.MaxLen"], apart := false, laid := [("unicode/utf8.acceptRanges", laid_unicode_utf8_acceptRanges), ("unicode/utf8.first", laid_unicode_utf8_first)], narrowed := true }
def RunedUptoSaid : Prop := runedUptoRow.holds Tryd.pinned (OpenSpec.upto runedSpec)

end Rows
end Go.Proofs.YteflnddphpjahaaDoor
