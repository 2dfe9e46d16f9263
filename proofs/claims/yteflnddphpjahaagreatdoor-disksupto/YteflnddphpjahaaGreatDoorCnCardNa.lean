import Derived.Test.YteflnddphpjahaaGreatDoorCnSameAtoDpA
import Derived.Test.YteflnddphpjahaaGreatDoorCards
set_option linter.unusedVariables false
set_option maxRecDepth 100000
set_option maxHeartbeats 16000000
namespace Go.Proofs.YteflnddphpjahaaGreatDoor
open Go.RowKit Go.Shelf Go.Lib
theorem disksU_k9:((Rows.disksUptoRow.inPlace == Tryz.prog.inPlace 5))=true:=by kernel_rfl
end Go.Proofs.YteflnddphpjahaaGreatDoor
