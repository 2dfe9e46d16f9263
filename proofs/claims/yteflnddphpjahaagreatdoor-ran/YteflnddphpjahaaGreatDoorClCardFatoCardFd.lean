import Derived.Test.YteflnddphpjahaaGreatDoorClCardAtoCpF
import Derived.Test.YteflnddphpjahaaGreatDoorCards
set_option linter.unusedVariables false
set_option maxRecDepth 100000
set_option maxHeartbeats 16000000
namespace Go.Proofs.YteflnddphpjahaaGreatDoor
open Go.RowKit Go.Shelf Go.Lib
theorem ran_k9:((Rows.ranRow.inPlace == Tryz.prog.inPlace 3))=true:=by kernel_rfl
theorem ran_k10:((Rows.ranRow.unfollowed == Tryz.prog.unfollowed 3))=true:=by kernel_rfl
theorem ran_k11:((Rows.ranRow.recurses == Tryz.prog.recurses 3))=true:=by kernel_rfl
theorem ran_k12:((Rows.ranRow.named == Tryz.prog.varsNamed 3))=true:=by kernel_rfl
end Go.Proofs.YteflnddphpjahaaGreatDoor
