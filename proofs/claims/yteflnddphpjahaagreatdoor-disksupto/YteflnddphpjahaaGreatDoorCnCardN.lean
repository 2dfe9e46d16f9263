import Derived.Test.YteflnddphpjahaaGreatDoorCnCardM
import Derived.Test.YteflnddphpjahaaGreatDoorCnCardNa
import Derived.Test.YteflnddphpjahaaGreatDoorCnCardNb
import Derived.Test.YteflnddphpjahaaGreatDoorCnCardNc
import Derived.Test.YteflnddphpjahaaGreatDoorCnCardNd
import Derived.Test.YteflnddphpjahaaGreatDoorCnCardNe
import Derived.Test.YteflnddphpjahaaGreatDoorCnCardNf
set_option linter.unusedVariables false
set_option maxRecDepth 100000
set_option maxHeartbeats 16000000
namespace Go.Proofs.YteflnddphpjahaaGreatDoor
open Go.RowKit Go.Shelf Go.Lib
open Go.ChangeShapes Go.WideShapes Go.ChangeAt
theorem bandD {a b:Bool} (h1:a=true) (h2:b=true):(a && b)=true:=by rw[h1,h2];rfl
theorem disksU_facts:joinedFacts Tryz.prog 5 Tryz.f5 (Rows.OpenSpec.upto Rows.disksSpec).bare Rows.disksUptoRow=true:=by
 unfold joinedFacts
 exact bandD (bandD (bandD (bandD (bandD (bandD (bandD (bandD (bandD (bandD (bandD (bandD (bandD (bandD (bandD (bandD (bandD (bandD (bandD (bandD (bandD (bandD (bandD (bandD (bandD (bandD (bandD (bandD (bandD (bandD (bandD disksU_k0 disksU_k1) disksU_k2) disksU_k3) disksU_k4) disksU_k5) disksU_k6) disksU_k7) disksU_k8) disksU_k9) disksU_k10) disksU_k11) disksU_k12) disksU_k13) disksU_k14) disksU_k15) disksU_k16) disksU_k17) disksU_k18) disksU_k19) disksU_k20) disksU_k21) disksU_k22) disksU_k23) disksU_k24) disksU_k25) disksU_k26) disksU_k27) disksU_k28) disksU_k29) disksU_k30) disksU_k31
theorem disksU_fn:Tryz.prog.funcNamed Rows.disksUptoRow.func=some 5:=by kernel_rfl
theorem disksU_inst:Tryz.f5.isInstance Tryz.prog Rows.disksUptoRow.origin Rows.disksUptoRow.targs:=of_decide_eq_true (by kernel_rfl)
theorem disksU_wrap:Tryz.f5.isWrapper Tryz.prog Rows.disksUptoRow.wrapper Rows.disksUptoRow.mainSum:=by unfold Func.isWrapper;first | (rw[if_pos (by decide +kernel)];kernel_rfl) | (rw[if_neg (by decide +kernel)];exact⟨rfl,rfl⟩)
end Go.Proofs.YteflnddphpjahaaGreatDoor
