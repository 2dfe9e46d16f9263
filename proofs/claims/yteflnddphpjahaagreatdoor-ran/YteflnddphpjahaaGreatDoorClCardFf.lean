import Derived.Test.YteflnddphpjahaaGreatDoorClCardAtoCpF
import Derived.Test.YteflnddphpjahaaGreatDoorCards
set_option linter.unusedVariables false
set_option maxRecDepth 100000
set_option maxHeartbeats 16000000
namespace Go.Proofs.YteflnddphpjahaaGreatDoor
open Go.RowKit Go.Shelf Go.Lib
theorem ran_k13:((Rows.ranRow.maps == (Tryz.f3.params.toList++Rows.ranSpec.plain.varTypes Tryz.prog).any (Tryz.prog.mapsRec ·)))=true:=by kernel_rfl
theorem ran_k14:((Rows.ranRow.ifaces == (Tryz.f3.params.toList++Rows.ranSpec.plain.varTypes Tryz.prog).any (Tryz.prog.ifacesRec ·)))=true:=by kernel_rfl
theorem ran_k15:((Rows.ranRow.mapsOut == Tryz.prog.mapsAmong Tryz.f3.resultTypes.toList))=true:=by kernel_rfl
theorem ran_k16:((Rows.ranRow.loops == (Tryz.f3.params.toList++Rows.ranSpec.plain.varTypes Tryz.prog).any (Tryz.prog.loopsFrom ·)))=true:=by kernel_rfl
theorem ran_k17:((Rows.ranRow.wideKeys == (Tryz.f3.params.toList++Rows.ranSpec.plain.varTypes Tryz.prog++Tryz.f3.resultTypes.toList).any (Tryz.prog.wideKeysFrom ·)))=true:=by kernel_rfl
theorem ran_k18:(Rows.ranSpec.vars.all (Tryz.prog.varReadable ·))=true:=by kernel_rfl
theorem ran_k19:(Tryz.f3.resultTypes.all (fun t=>Tryz.prog.readableRec t && decide (t < Tryz.prog.types.size)))=true:=by kernel_rfl
theorem ran_k20:((Rows.ranRow.ifacesOut == Tryz.f3.resultTypes.toList.any (Tryz.prog.ifacesRec ·)))=true:=by kernel_rfl
theorem ran_k21:((Rows.ranRow.loopsOut == Tryz.f3.resultTypes.toList.any (Tryz.prog.loopsFrom ·)))=true:=by kernel_rfl
theorem ran_k22:((Rows.ranRow.plainKeys == Tryz.prog.plainKeys))=true:=by kernel_rfl
theorem ran_k23:(Rows.ranRow.shortTexts.isNone)=true:=by kernel_rfl
theorem ran_k24:(Tryz.prog.stopsHeard)=true:=by kernel_rfl
theorem ran_k25:(Tryz.prog.mayEnter)=true:=by kernel_rfl
theorem ran_k26:((Rows.ranRow.lifted == Tryz.prog.liftsFinal))=true:=by kernel_rfl
theorem ran_k27:((Tryz.prog.make == some Rows.ranRow.make))=true:=by kernel_rfl
theorem ran_k28:((Rows.ranRow.kinds == (if Rows.ranRow.domain.isEmpty then [] else Tryz.f3.params.toList.map fun t=>match Tryz.prog.underlying t with | some (.int k)=>some k | _=>none)))=true:=by kernel_rfl
theorem ran_k29:((Rows.ranRow.pinned == Rows.ranRow.pinnedBy))=true:=by kernel_rfl
theorem ran_k30:((Rows.ranRow.veiled == (Tryz.f3.params.toList++Rows.ranSpec.plain.varTypes Tryz.prog++Tryz.f3.resultTypes.toList).any (Tryz.prog.veiledRec ·)))=true:=by kernel_rfl
theorem ran_k31:(Rows.ranRow.veiledFits Tryz.prog Tryz.f3.params.toList (Tryz.f3.params.toList++Rows.ranSpec.plain.varTypes Tryz.prog++Tryz.f3.resultTypes.toList))=true:=by kernel_rfl
end Go.Proofs.YteflnddphpjahaaGreatDoor
