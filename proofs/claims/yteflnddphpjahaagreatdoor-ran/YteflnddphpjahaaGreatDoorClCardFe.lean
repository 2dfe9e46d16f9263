import Derived.Test.YteflnddphpjahaaGreatDoorClCardAtoCpF
import Derived.Test.YteflnddphpjahaaGreatDoorCards
set_option linter.unusedVariables false
set_option maxRecDepth 100000
set_option maxHeartbeats 16000000
namespace Go.Proofs.YteflnddphpjahaaGreatDoor
open Go.RowKit Go.Shelf Go.Lib
theorem ran_k0:(Rows.ranRow.wf (OpenSpec.ofChange Rows.ranSpec))=true:=by kernel_rfl
theorem ran_k1:(laidOutB Tryz.prog)=true:=by kernel_rfl
theorem ran_k2:(mapsRowed Tryz.prog)=true:=by kernel_rfl
theorem ran_k3:(Tryz.f3.params.all (Tryz.prog.readableRec ·))=true:=by kernel_rfl
theorem ran_k4:(namedTie Tryz.prog Rows.ranRow.named Rows.ranSpec.vars)=true:=by kernel_rfl
theorem ran_k5:((Rows.ranRow.stops == []))=true:=by kernel_rfl
theorem ran_k6:((Tryz.prog.stops == []))=true:=by kernel_rfl
theorem ran_k7:((Rows.ranRow.knobs == []))=true:=by kernel_rfl
theorem ran_k8:((Tryz.prog.stopKnobs == []))=true:=by kernel_rfl
end Go.Proofs.YteflnddphpjahaaGreatDoor
