import Derived.Test.YteflnddphpjahaaGreatDoorClCardF
set_option linter.unusedVariables false
set_option maxRecDepth 100000
set_option maxHeartbeats 16000000
namespace Go.Proofs.YteflnddphpjahaaGreatDoor
open Go.RowKit Go.Shelf Go.Lib
open Go.ChangeShapes Go.WideShapes Go.ChangeAt
theorem ran_over:Rows.RanSaid :=
 OpenClaim.holds_of_wide 3 Tryz.f3 rfl rfl rfl rfl rfl rfl rfl ⟨rfl,rfl,rfl,rfl,rfl⟩ rfl rfl rfl rfl rfl ran_fn Tryz.func3 ran_facts ran_inst ran_wrap
  (fun os started H enc _=>ran_lifted os started H enc)
end Go.Proofs.YteflnddphpjahaaGreatDoor
