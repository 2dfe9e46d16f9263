import Derived.Test.YteflnddphpjahaaGreatDoorCnSameAtoDpA
import Derived.Test.YteflnddphpjahaaGreatDoorCards
set_option linter.unusedVariables false
set_option maxRecDepth 100000
set_option maxHeartbeats 16000000
namespace Go.Proofs.YteflnddphpjahaaGreatDoor
open Go.RowKit Go.Shelf Go.Lib
theorem disksU_k13:((Rows.disksUptoRow.maps == (Tryz.f5.params.toList++(Rows.OpenSpec.upto Rows.disksSpec).bare.plain.varTypes Tryz.prog).any (Tryz.prog.mapsRec ·)))=true:=by kernel_rfl
theorem disksU_k14:((Rows.disksUptoRow.ifaces == (Tryz.f5.params.toList++(Rows.OpenSpec.upto Rows.disksSpec).bare.plain.varTypes Tryz.prog).any (Tryz.prog.ifacesRec ·)))=true:=by kernel_rfl
theorem disksU_k15:((Rows.disksUptoRow.mapsOut == Tryz.prog.mapsAmong Tryz.f5.resultTypes.toList))=true:=by kernel_rfl
theorem disksU_k16:((Rows.disksUptoRow.loops == (Tryz.f5.params.toList++(Rows.OpenSpec.upto Rows.disksSpec).bare.plain.varTypes Tryz.prog).any (Tryz.prog.loopsFrom ·)))=true:=by kernel_rfl
theorem disksU_k17:((Rows.disksUptoRow.wideKeys == (Tryz.f5.params.toList++(Rows.OpenSpec.upto Rows.disksSpec).bare.plain.varTypes Tryz.prog++Tryz.f5.resultTypes.toList).any (Tryz.prog.wideKeysFrom ·)))=true:=by kernel_rfl
theorem disksU_k18:((Rows.OpenSpec.upto Rows.disksSpec).bare.vars.all (Tryz.prog.varReadable ·))=true:=by kernel_rfl
theorem disksU_k19:(Tryz.f5.resultTypes.all (fun t=>Tryz.prog.readableRec t && decide (t < Tryz.prog.types.size)))=true:=by kernel_rfl
theorem disksU_k20:((Rows.disksUptoRow.ifacesOut == Tryz.f5.resultTypes.toList.any (Tryz.prog.ifacesRec ·)))=true:=by kernel_rfl
theorem disksU_k21:((Rows.disksUptoRow.loopsOut == Tryz.f5.resultTypes.toList.any (Tryz.prog.loopsFrom ·)))=true:=by kernel_rfl
theorem disksU_k22:((Rows.disksUptoRow.plainKeys == Tryz.prog.plainKeys))=true:=by kernel_rfl
theorem disksU_k23:(Rows.disksUptoRow.shortTexts.isNone)=true:=by kernel_rfl
theorem disksU_k24:(Tryz.prog.stopsHeard)=true:=by kernel_rfl
theorem disksU_k25:(Tryz.prog.mayEnter)=true:=by kernel_rfl
theorem disksU_k26:((Rows.disksUptoRow.lifted == Tryz.prog.liftsFinal))=true:=by kernel_rfl
theorem disksU_k27:((Tryz.prog.make == some Rows.disksUptoRow.make))=true:=by kernel_rfl
theorem disksU_k28:((Rows.disksUptoRow.kinds == (if Rows.disksUptoRow.domain.isEmpty then [] else Tryz.f5.params.toList.map fun t=>match Tryz.prog.underlying t with | some (.int k)=>some k | _=>none)))=true:=by kernel_rfl
theorem disksU_k29:((Rows.disksUptoRow.pinned == Rows.disksUptoRow.pinnedBy))=true:=by kernel_rfl
theorem disksU_k30:((Rows.disksUptoRow.veiled == (Tryz.f5.params.toList++(Rows.OpenSpec.upto Rows.disksSpec).bare.plain.varTypes Tryz.prog++Tryz.f5.resultTypes.toList).any (Tryz.prog.veiledRec ·)))=true:=by kernel_rfl
theorem disksU_k31:(Rows.disksUptoRow.veiledFits Tryz.prog Tryz.f5.params.toList (Tryz.f5.params.toList++(Rows.OpenSpec.upto Rows.disksSpec).bare.plain.varTypes Tryz.prog++Tryz.f5.resultTypes.toList))=true:=by kernel_rfl
end Go.Proofs.YteflnddphpjahaaGreatDoor
