import Derived.Test.YteflnddphpjahaaGreatDoorClCardG
import Derived.Test.YteflnddphpjahaaGreatDoorTie
import Derived.Test.YteflnddphpjahaaGreatDoorCards
import Derived.SevenTiedAt
set_option linter.unusedVariables false
set_option maxRecDepth 100000
set_option maxHeartbeats 16000000
namespace Go.Proofs.YteflnddphpjahaaGreatDoor
open Go.RowKit Go.Shelf Go.Lib
open Go.ChangeShapes Go.WideShapes Go.ChangeAt
theorem ran_text:Rows.ranRow.wfByText (OpenSpec.ofChange Rows.ranSpec)=true:=by kernel_rfl
theorem main_is : Tryz.prog.mainIs = some (true, "e3cda91d3dd411be2f0bf148e6c5b10a10a75331e19af840f64e93a2f02d2ce3".toList) := by kernel_rfl
theorem looks_is:true=Tryz.prog.looks []:=by kernel_rfl
theorem ran_stand:([9,9,3].all fun u=>!Tryz.prog.wantsStandIn u)=true:=by kernel_rfl
theorem ran_goes:false=Rows.ranRow.goesBy Tryz.prog:=by kernel_rfl
theorem ran_card:Rows.RanCardSaid :=
 Claim7.holds_tied_plain_at .later [] [.data, .data, .sentinel, .sentinel, .sentinel, .pinned] true (true, "e3cda91d3dd411be2f0bf148e6c5b10a10a75331e19af840f64e93a2f02d2ce3") true ran_over (fun _ h => by cases h) ran_text (fun _ h => by cases h) ran_row_tie rfl ⟨rfl, rfl⟩ main_is rfl
  (fun f fn hf hfn=>by
    obtain rfl:f=3:=Option.some.inj (ran_fn.symm.trans hf) |>.symm
    obtain rfl:fn=Tryz.f3:=(Option.some.inj (Tryz.func3.symm.trans hfn)).symm
    exact⟨looks_is,fun j t ht=>by
     rw[Tryz.params3] at ht
     have hm:t ∈ [9,9,3]:=by simpa using Array.mem_of_getElem? ht
     exact(show Tryz.prog.wantsStandIn t=false by simpa using List.all_eq_true.1 ran_stand t hm)⟩)
  ran_goes
#print axioms ran_card
end Go.Proofs.YteflnddphpjahaaGreatDoor
