import Derived.Test.YteflnddphpjahaaGreatDoorCnCardN
set_option linter.unusedVariables false
set_option maxRecDepth 100000
set_option maxHeartbeats 16000000
namespace Go.Proofs.YteflnddphpjahaaGreatDoor
open Go.RowKit Go.Shelf Go.Lib
open Go.ChangeShapes Go.WideShapes Go.ChangeAt
theorem disksU_wit (os:Os) (H:Type) (enc:TypeId × Value→H):∃ (w:World) (tape:Tape) (i:Input),w.os=os∧(w.forCall tape i).Shaped Tryz.prog∧i.vars=[]∧Input.okWide Tryz.prog (w.forCall tape i) .any w.heap.size 5 i ∧
   (Rows.OpenSpec.upto Rows.disksSpec).preRow enc Tryz.prog Tryz.f5 Rows.disksUptoRow.domain false Rows.disksUptoRow.laid (w.forCall tape i).memory i.args∧({ modest:=false }:Assume).holds Tryz.prog (lone (Frame.enter Tryz.prog 5 i.args .normal) [] (w.forCall tape i)):=by
 obtain⟨w,tape,i,h1,h2,h3,h4,h5,h6⟩:=ChangeSpec.witness_shaped (enc:=enc) (C:=Tryz.checked) (os:=os) (f:=5) (fn:=Tryz.f5) (s:=Rows.disksSpec) (conds:=[]) (apart:=false)
  (X:=fun w args=>(Rows.OpenSpec.upto Rows.disksSpec).preRow enc Tryz.prog Tryz.f5 Rows.disksUptoRow.domain false Rows.disksUptoRow.laid w args) false (World.laidAll Tryz.prog os Rows.disksUptoRow.laid) #[.slice none 0 0] 8 (World.laidAll_os _ _ _)
  (World.shaped_of_ZipB (by kernel_rfl) (by kernel_rfl)) (by kernel_rfl) (by kernel_rfl) (by kernel_rfl)
  (OpenSpec.preRow_of_cond 8 (x:=([.nil],[],[])) (by kernel_rfl) (by kernel_rfl) (fun k hk=>by cases hk;kernel_rfl) (by kernel_rfl)
    (by rw[MakeChecks.laidMetH_plain _ _ _ (by kernel_rfl)];exact laidMet_laidAll _ (by kernel_rfl) (by kernel_rfl)))
 exact⟨w,tape,i,h1,h2,h3,h4,h5.1.2,h6⟩
theorem disksU_lifted (os:Os) (started:os.Started) (H:Type) (enc:TypeId × Value→H) (F:Stop.Interp) :
  ReturnsInHanded {} Tryz.checked os 5 .any ((Rows.OpenSpec.upto Rows.disksSpec).preRow enc Tryz.prog Tryz.f5 Rows.disksUptoRow.domain false Rows.disksUptoRow.laid) (((Rows.OpenSpec.upto Rows.disksSpec).at F).post enc Tryz.prog Tryz.f5 false true false false):=by
 refine returnsInHanded_of_row (C:=Tryz.checked) (s:=Rows.OpenSpec.upto Rows.disksSpec) own started (by kernel_rfl) Tryz.func5 (disksU_wit os H enc) ?_
 intro W base args ds gs before hval hW _ hcond _ _ _ _
 exact Dl.disks_contract H enc W base args ds gs before hval hW (hcond _ rfl)
theorem disksU_over:Rows.DisksUptoSaid :=
 OpenClaim.holds_of_cond 5 Tryz.f5 rfl rfl rfl rfl rfl rfl rfl ⟨rfl,rfl,rfl,rfl,rfl⟩ rfl rfl rfl rfl rfl disksU_fn Tryz.func5 disksU_facts disksU_inst disksU_wrap
  (fun os started H enc _ F=>by rw[OpenClaim.pre_eq_preRow];exact disksU_lifted os started H enc F)
end Go.Proofs.YteflnddphpjahaaGreatDoor
