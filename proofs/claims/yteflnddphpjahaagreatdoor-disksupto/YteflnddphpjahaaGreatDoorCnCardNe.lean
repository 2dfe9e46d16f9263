import Derived.Test.YteflnddphpjahaaGreatDoorCnSameAtoDpA
import Derived.Test.YteflnddphpjahaaGreatDoorCards
set_option linter.unusedVariables false
set_option maxRecDepth 100000
set_option maxHeartbeats 16000000
namespace Go.Proofs.YteflnddphpjahaaGreatDoor
open Go.RowKit Go.Shelf Go.Lib
theorem disksU_k0:(Rows.disksUptoRow.wf (OpenSpec.ofChange (Rows.OpenSpec.upto Rows.disksSpec).bare))=true:=by kernel_rfl
theorem disksU_k1:(laidOutB Tryz.prog)=true:=by kernel_rfl
theorem disksU_k2:(mapsRowed Tryz.prog)=true:=by kernel_rfl
theorem disksU_k3:(Tryz.f5.params.all (Tryz.prog.readableRec ·))=true:=by kernel_rfl
theorem disksU_k4:(namedTie Tryz.prog Rows.disksUptoRow.named (Rows.OpenSpec.upto Rows.disksSpec).bare.vars)=true:=by kernel_rfl
theorem disksU_k5:((Rows.disksUptoRow.stops == []))=true:=by kernel_rfl
theorem disksU_k6:((Tryz.prog.stops == []))=true:=by kernel_rfl
theorem disksU_k7:((Rows.disksUptoRow.knobs == []))=true:=by kernel_rfl
theorem disksU_k8:((Tryz.prog.stopKnobs == []))=true:=by kernel_rfl
end Go.Proofs.YteflnddphpjahaaGreatDoor
