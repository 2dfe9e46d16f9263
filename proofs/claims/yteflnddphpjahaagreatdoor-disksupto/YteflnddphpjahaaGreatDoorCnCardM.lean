import Derived.Test.YteflnddphpjahaaGreatDoorCnSameAtoDpA
import Derived.Test.YteflnddphpjahaaGreatDoorCnDlRtoDksB
import Derived.Test.YteflnddphpjahaaGreatDoorTie
import Derived.Test.YteflnddphpjahaaGreatDoorCards
import Derived.Deep.DeepHandedRow
import Derived.SevenTiedAt
set_option linter.unusedVariables false
set_option linter.unusedSimpArgs false
set_option maxRecDepth 100000
set_option maxHeartbeats 16000000
namespace Go.Proofs.YteflnddphpjahaaGreatDoor.Dl
open Go.RowKit Go.Shelf Go.Lib
open Go.ChangeShapes Go.WideShapes Go.ChangeAt
theorem dksLaidOut:laidOutB Tryz.prog=true:=by kernel_rfl
theorem disks_small {H:Type} {d:DataW H} (hk:Rows.uptoSmall H [d]=true):Rows.uptoBulk d≤1048576:=by
 have h:Rows.uptoBulkAll [d]≤1048576:=of_decide_eq_true hk
 simp only[Rows.uptoBulkAll] at h
 omega
theorem disks_contract (H:Type) (enc:TypeId × Value→H) (W:World) (base:Nat) (args:Array Value) (ds gs:List (DataW H)) (before:List MemPlace)
  (hval:∀ (j:Nat) t v,Tryz.f5.params[j]? = some t→args[j]? = some v→Value.okWide Tryz.prog W .any base t v)
  (hW:DataW.Whole enc Tryz.prog Tryz.f5.params.toList Rows.disksSpec.vars false W args.toList ds gs before) (hk:Rows.uptoSmall H (ds++gs)=true) :
  Calls Tryz.prog 5 args W fun e W'=>∃ v,e = .returned v∧Rows.disksSpec.post enc Tryz.prog Tryz.f5 false true false false W args v W':=by
 have hW':=hW
 obtain⟨p,q,hA0,hV,rfl,hfz,hnd⟩:=hW
 have hA:DataW.TrodAll enc Tryz.prog W 0 (fun _=>true) true Tryz.f5.params.toList args.toList ds p:=hA0
 rw[Tryz.params5] at hA hval
 obtain⟨v0,vs0,d0,ds0,p0,q0,hargs,rfl,rfl,h0,r0⟩:=trodAll_cons hA
 obtain⟨rfl,rfl,rfl⟩:=trodAll_nil r0
 obtain rfl:args = #[v0]:=by cases args;simp_all
 obtain⟨rfl,rfl⟩:=trodVars_none hV
 obtain⟨b0,bl,bc,rfl⟩:=okWide_slice Tryz.underlying48 (hval 0 48 v0 rfl rfl)
 clear hA0
 simp only[List.append_nil,List.nil_append] at hW' hk
 have hlt:∀ y ∈ p0,y.block < W.heap.size:=fun y hy=>by
  have:=hW'.lt y (by simpa using hy)
  simpa using this
 have s0:∀ (W':World),Below W.heap.size W W'→DataW.Trod enc Tryz.prog W' 0 (fun b=>decide (b < W.heap.size)) true 48 (.slice b0 bl bc) d0 p0 :=
  fun W' hn=>Below.trod dksLaidOut (by kernel_rfl) (of_decide_eq_true (by kernel_rfl)) h0 hn hlt
 obtain⟨_,f0⟩:=h0
 obtain⟨L,hlen,hS⟩:=script_open f0 (disks_small hk)
 subst hlen
 refine(disks_any b0 bc L W hS).mono fun e W' ⟨he,hb⟩=>?_
 subst he
 exact⟨_,rfl,_,_,_,[],_,[],hW',trodAll_mk1 (shut_bool Tryz.underlying4 _),trodAll_cons_mk (s0 _ hb) trodAll_mk0,rfl,hb.frame _,fun h=>by cases h⟩
end Go.Proofs.YteflnddphpjahaaGreatDoor.Dl
