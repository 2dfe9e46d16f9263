import Derived.Test.YteflnddphpjahaaGreatDoorCnCardO
import Derived.Test.YteflnddphpjahaaGreatDoorTie
import Derived.Test.YteflnddphpjahaaGreatDoorCards
import Derived.SevenTiedAt
set_option linter.unusedVariables false
set_option maxRecDepth 100000
set_option maxHeartbeats 16000000
namespace Go.Proofs.YteflnddphpjahaaGreatDoor
open Go.RowKit Go.Shelf Go.Lib
open Go.ChangeShapes Go.WideShapes Go.ChangeAt
theorem disksU_text:Rows.disksUptoRow.wfByText (Rows.OpenSpec.upto Rows.disksSpec)=true:=by kernel_rfl
theorem disksU_main_is : Tryz.prog.mainIs = some (true, "e3cda91d3dd411be2f0bf148e6c5b10a10a75331e19af840f64e93a2f02d2ce3".toList) := by kernel_rfl
theorem disksU_looks_is:true=Tryz.prog.looks []:=by kernel_rfl
theorem disksU_stand:([48].all fun u=>!Tryz.prog.wantsStandIn u)=true:=by kernel_rfl
theorem disksU_goes:false=Rows.disksUptoRow.goesBy Tryz.prog:=by kernel_rfl
theorem disks_upto_card:Rows.DisksUptoCardSaid :=
 Claim7.holds_tied_plain_at .later [] [.data, .data, .data, .data, .data, .sentinel, .sentinel, .sentinel, .pinned] true (true, "e3cda91d3dd411be2f0bf148e6c5b10a10a75331e19af840f64e93a2f02d2ce3") true disksU_over (fun _ h => by cases h) disksU_text (fun _ h => by cases h) disksUpto_row_tie rfl ⟨rfl, rfl⟩ disksU_main_is rfl
  (fun f fn hf hfn=>by
    obtain rfl:f=5:=Option.some.inj (disksU_fn.symm.trans hf) |>.symm
    obtain rfl:fn=Tryz.f5:=(Option.some.inj (Tryz.func5.symm.trans hfn)).symm
    exact⟨disksU_looks_is,fun j t ht=>by
     rw[Tryz.params5] at ht
     have hm:t ∈ [48]:=by simpa using Array.mem_of_getElem? ht
     exact(show Tryz.prog.wantsStandIn t=false by simpa using List.all_eq_true.1 disksU_stand t hm)⟩)
  disksU_goes
#print axioms disks_upto_card
end Go.Proofs.YteflnddphpjahaaGreatDoor
