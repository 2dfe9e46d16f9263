import Derived.Test.YteflnddphpjahaaGreatDoorClCardE
import Derived.Test.YteflnddphpjahaaGreatDoorClCardFatoCardFd
import Derived.Test.YteflnddphpjahaaGreatDoorClCardFe
import Derived.Test.YteflnddphpjahaaGreatDoorClCardFf
set_option linter.unusedVariables false
set_option maxRecDepth 100000
set_option maxHeartbeats 16000000
namespace Go.Proofs.YteflnddphpjahaaGreatDoor
open Go.RowKit Go.Shelf Go.Lib
open Go.ChangeShapes Go.WideShapes Go.ChangeAt
theorem band {a b:Bool} (h1:a=true) (h2:b=true):(a && b)=true:=by rw[h1,h2];rfl
theorem ran_facts:joinedFacts Tryz.prog 3 Tryz.f3 Rows.ranSpec Rows.ranRow=true:=by
 unfold joinedFacts
 exact band (band (band (band (band (band (band (band (band (band (band (band (band (band (band (band (band (band (band (band (band (band (band (band (band (band (band (band (band (band (band ran_k0 ran_k1) ran_k2) ran_k3) ran_k4) ran_k5) ran_k6) ran_k7) ran_k8) ran_k9) ran_k10) ran_k11) ran_k12) ran_k13) ran_k14) ran_k15) ran_k16) ran_k17) ran_k18) ran_k19) ran_k20) ran_k21) ran_k22) ran_k23) ran_k24) ran_k25) ran_k26) ran_k27) ran_k28) ran_k29) ran_k30) ran_k31
theorem ran_fn:Tryz.prog.funcNamed Rows.ranRow.func=some 3:=by kernel_rfl
theorem ran_inst:Tryz.f3.isInstance Tryz.prog Rows.ranRow.origin Rows.ranRow.targs:=of_decide_eq_true (by kernel_rfl)
theorem ran_wrap:Tryz.f3.isWrapper Tryz.prog Rows.ranRow.wrapper Rows.ranRow.mainSum:=by unfold Func.isWrapper;first | (rw[if_pos (by decide +kernel)];kernel_rfl) | (rw[if_neg (by decide +kernel)];exact⟨rfl,rfl⟩)
end Go.Proofs.YteflnddphpjahaaGreatDoor
