import Derived.Test.YteflnddphpjahaaGreatDoorCnPkHtoPkI
import Derived.BigQuiet
set_option linter.unusedVariables false
set_option linter.unusedSimpArgs false
set_option maxRecDepth 100000
set_option maxHeartbeats 16000000
namespace Go.Proofs.YteflnddphpjahaaGreatDoor.Pk
open Go.RowKit
open Sd (Tb)
open Dk
def clampN (n:Int) (m:Nat):Nat:=(min (max n 0) (m:Int)).toNat
theorem clampN_cast (n:Int) (m:Nat):((clampN n m:Nat):Int)=min (max n 0) (m:Int):=by unfold clampN;omega
theorem clampN_le (n:Int) (m:Nat):clampN n m≤m:=by unfold clampN;omega
theorem clamp_any (n:Int) (m:Nat) (mm:Int) (w:World) (hm:mm=(m:Int)):Calls Tryz.prog 262 #[.int .i64 n,.int .i64 mm] w fun e w'=>e = .returned (.int .i64 (clampN n m))∧w'=w:=by
 subst hm
 rw[clampN_cast]
 go_enter Tryz.func262,Tryz.ntmps262
 go_wp2
 go_ret
 exact⟨rfl,rfl⟩
structure KeepAt (w:World) (p:Option Addr) (n:Nat) (K:Nat→Int):Prop where
 cell:∀ j,j < n→∃ g o,p=some ⟨g,o,none⟩∧w.cell? ⟨g,o+j,none⟩=some (.int .i64 (K j))∧∃ cur fr,w.heap[g]? = some (.cells cur 3 fr)
 small:n≤9223372036854775807
def keptK (n:Nat) (K:Nat→Int) (i:Nat):Int:=if i < n then K i else 0
theorem keptOf_any (p:Option Addr) (n c:Nat) (K:Nat→Int) (i:Nat) (w:World) (h:KeepAt w p n K):Calls Tryz.prog 265 #[.slice p n c,.int .i64 i] w fun e w'=>e = .returned (.int .i64 (keptK n K i))∧w'=w:=by
 have hs:=h.small
 by_cases hi:i < n
 ·have e:keptK n K i=K i:=if_pos hi
  rw[e]
  have hi':(i:Int) < (n:Int):=by omega
  obtain⟨g,o,rfl,hc,_⟩:=h.cell i hi
  clear h e
  go_enter Tryz.func265,Tryz.ntmps265
  go_wp2
  go_ret
  exact⟨rfl,rfl⟩
 ·have e:keptK n K i=0:=if_neg hi
  rw[e]
  have hi':¬ (i:Int) < (n:Int):=by omega
  clear h e
  go_enter Tryz.func265,Tryz.ntmps265
  go_wp2
  go_ret
  exact⟨rfl,rfl⟩
def crashF (F:Fl) (k:Int):Fl:=⟨F.bytes.extract 0 (F.safe+clampN k (F.bytes.size - F.safe)),F.safe+clampN k (F.bytes.size - F.safe)⟩
theorem crashF_size {F:Fl} (h:F.safe≤F.bytes.size) (k:Int):(crashF F k).bytes.size=F.safe+clampN k (F.bytes.size - F.safe):=by
 have:=clampN_le k (F.bytes.size - F.safe)
 unfold crashF
 rw[ByteArray.size_extract];omega
theorem crashF_safe {F:Fl} (h:F.safe≤F.bytes.size) (k:Int):(crashF F k).safe≤(crashF F k).bytes.size:=by rw[crashF_size h k];exact Nat.le_refl _
theorem own_cutb {w:World} {p:Option Addr} {b:ByteArray} {c m:Nat} (h:w.ownsRow 0 5 1 (.slice p b.size c) b.size (byteCells b)) (hm:m≤b.size):w.ownsRow 0 5 1 (.slice p m c) m (byteCells (b.extract 0 m)):=by
 have hl:(byteCells (b.extract 0 m)).length=m:=by rw[byteCells_len,ByteArray.size_extract];omega
 have he:byteCells (b.extract 0 m)=(byteCells b).take m:=by
  unfold byteCells
  rw[← List.map_take]
  congr 1
  simp
 refine⟨by rw[hl,Nat.mul_one],?_⟩
 rcases h.2 with ⟨hv,h0⟩ | ⟨g,cap,cur,hv,hB,hg,q1,q2,q3,q4⟩
 ·injection hv with e1 e2 e3
  subst e1 e3
  have:m=0:=by omega
  subst this
  exact .inl ⟨rfl,rfl⟩
 ·injection hv with e1 e2 e3
  subst e1 e3
  refine .inr ⟨g,c,cur,rfl,hB,hg,by omega,q2,q3,?_⟩
  rw[he,← q4,List.take_take,Nat.mul_one,Nat.mul_one,Nat.min_eq_left hm]
theorem crash_any (f:Nat) (F:Fl) (vb:Value) (k:Int) (w:World) (h:FAt w f F vb) (hs:F.safe≤F.bytes.size) :
  Calls Tryz.prog 264 #[.pointer (some ⟨f,0,none⟩),.int .i64 k] w fun e w'=>e = .returned (.tuple #[])∧∃ v',FAt w' f (crashF F k) v'∧v'.ownBlock=vb.ownBlock∧Kept w w' (fun k=>k≠f):=by
 obtain⟨p,c,rfl,hpc⟩:=Dk.osl h.row
 have hp:∀ a,p=some a→∃ g,a=⟨g,0,none⟩:=fun a e=>by
  rcases h.row.2 with ⟨hv,_⟩ | ⟨g,_,_,hv,_⟩
  ·injection hv with e1;rw[e1] at e;cases e
  ·injection hv with e1;rw[e1] at e;exact⟨g,(Option.some.inj e).symm⟩
 have hp0:p=none→F.bytes.size=0:=fun e=>by
  rcases h.row.2 with ⟨_,h0⟩ | ⟨g,_,_,hv,_⟩
  ·exact h0
  ·injection hv with e1;rw[e1] at e;cases e
 have HF:=hde h
 have c0:w.cell? ⟨f,0,none⟩=some (.slice p F.bytes.size c):=by rw[cell_of_row w _ 0 _ _ _ h.blk];rfl
 have c1:w.cell? ⟨f,1,none⟩=some (.int .i64 F.safe):=by rw[cell_of_row w _ 1 _ _ _ h.blk];rfl
 have f0:w.frozen? ⟨f,0,none⟩=false:=by simp[World.frozen?,h.blk]
 have f1:w.frozen? ⟨f,1,none⟩=false:=by simp[World.frozen?,h.blk]
 have hm:c≤9223372036854775807:=by
  rcases h.row.2 with ⟨hv,h0⟩ | ⟨_,cap',_,hv,_,_,h1,h2,_⟩
  ·injection hv with _ _ e3;omega
  ·injection hv with _ _ e3;unfold maxLen at h2;omega
 have hcl:=clampN_le k (F.bytes.size - F.safe)
 have hca:=fun W mm (e:mm=(((F.bytes.size - F.safe:Nat)):Int))=>clamp_any k (F.bytes.size - F.safe) mm W e
 generalize hX:clampN k (F.bytes.size - F.safe)=X at hca hcl
 clear h
 go_enter Tryz.func264,Tryz.ntmps264
 have hw1:IntKind.i64.wrap ((F.bytes.size:Int) - (F.safe:Int))=(((F.bytes.size - F.safe:Nat)):Int):=by rw[IntKind.wrap_i64];omega
 have hw2:IntKind.i64.wrap ((F.safe:Int)+(X:Int))=((F.safe+X:Nat):Int):=by rw[IntKind.wrap_i64];omega
 cases p with
 | none =>
  have h0:=hp0 rfl
  have hs0:F.safe=0:=by omega
  have hx0:X=0:=by omega
  have hc:c=0:=by
   rcases(uh HF).row.2 with ⟨hv,_⟩ | ⟨_,_,_,hv,_⟩
   ·injection hv
   ·injection hv with e1;cases e1
  subst hx0 hc
  rw[h0] at c0 hca hw1
  rw[hs0] at c1 hca hw1
  have HFS:=hde (And.intro h0 hs0)
  have HX:=hde hX
  clear hp hp0 h0 hs0 hcl hpc hs hw2 hX
  go_wp2_with fail
  go_quiet (fail)
  go_wp2_with fail
  go_region_with (go_at_call 262;refine(hca _ _ (by first | exact hw1 | rfl | omega)).mono ?_;rintro e w' ⟨rfl,hw⟩;obtain rfl:=hw.symm)
  all_goals
   obtain⟨W,hW⟩:∃ W,W=((w.drewN (nq+1)).setCell ⟨f,0,none⟩ (.slice none 0 0)):=⟨_,rfl⟩
   have hbW:W.heap[f]? = some (.cells #[.slice none 0 0,.int .i64 F.safe] 364 (0,0)):=by
    rw[hW];exact heap_setCell_same (w.drewN (nq+1)) f 0 _ _ _ (uh HF).blk
   have hkW:Kept w W (fun k=>k≠f):=by
    rw[hW]
    exact⟨rfl,rfl,rfl,by simp,fun k hk ho=>Below.heap_setCell (w.drewN (nq+1)) _ _ k ho⟩
   have d0:W.cell? ⟨f,0,none⟩=some (.slice none 0 0):=by rw[cell_of_row W _ 0 _ _ _ hbW];rfl
   have d1:W.cell? ⟨f,1,none⟩=some (.int .i64 F.safe):=by rw[cell_of_row W _ 1 _ _ _ hbW];rfl
   have df:W.frozen? ⟨f,1,none⟩=false:=by simp[World.frozen?,hbW]
   rw[← hW]
   have H:=hde (And.intro hbW hkW)
   clear hW hbW hkW c0 c1 f0 f1
   go_wp2
   obtain⟨hbW,hkW⟩:=uh H
   obtain⟨h0,hs0⟩:=uh HFS
   have hx:FAt (W.setCell ⟨f,1,none⟩ (.int .i64 ((0:Nat):Int))) f (crashF F k) (.slice none 0 0):=by
    have e:crashF F k=⟨F.bytes.extract 0 0,0⟩:=by unfold crashF;rw[uh HX,hs0]
    have hz:(F.bytes.extract 0 0).size=0:=by rw[ByteArray.size_extract];omega
    rw[e]
    refine file_set1 (X:=⟨F.bytes.extract 0 0,F.safe⟩) ⟨hbW,?_⟩ 0
    show World.ownsRow W 0 5 1 _ (F.bytes.extract 0 0).size _
    rw[hz]
    have hn:byteCells (F.bytes.extract 0 0)=[]:=List.eq_nil_of_length_eq_zero (by rw[byteCells_len,hz])
    rw[hn]
    exact World.ownsRow_nil _ _ _ _
   exact bodyPost_end (results_none rfl _ _ _) rfl ⟨rfl,.slice none 0 0,by simpa using hx,rfl,hkW.setCell (fun h=>h rfl) _⟩
 | some a =>
  obtain⟨g,rfl⟩:=hp a rfl
  clear hp hp0
  go_wp2_with fail
  go_quiet (fail)
  go_wp2_with fail
  go_region_with (go_at_call 262;refine(hca _ _ (by first | exact hw1 | rfl | omega)).mono ?_;rintro e w' ⟨rfl,hw⟩;obtain rfl:=hw.symm)
  all_goals
   obtain⟨W,hW⟩:∃ W,W=((w.drewN (nq+1)).setCell ⟨f,0,none⟩ (.slice (some ⟨g,0,none⟩) (F.safe+X) c)):=⟨_,rfl⟩
   have hbW:W.heap[f]? = some (.cells #[.slice (some ⟨g,0,none⟩) (F.safe+X) c,.int .i64 F.safe] 364 (0,0)):=by
    rw[hW];exact heap_setCell_same (w.drewN (nq+1)) f 0 _ _ _ (uh HF).blk
   have hkW:Kept w W (fun k=>k≠f):=by
    rw[hW]
    exact⟨rfl,rfl,rfl,by simp,fun k hk ho=>Below.heap_setCell (w.drewN (nq+1)) _ _ k ho⟩
   have hrW:W.ownsRow 0 5 1 (.slice (some ⟨g,0,none⟩) (F.safe+X) c) (F.safe+X) (byteCells (F.bytes.extract 0 (F.safe+X))):=by
    refine own_kept (own_cutb (uh HF).row (by omega)) hkW (fun g' hg'=>?_)
    have:g=g':=by simpa [Value.ownBlock] using hg'
    subst this
    obtain⟨cc,hc⟩:=(uh HF).own (g:=g) rfl
    exact blk_ne hc (uh HF).blk (by decide)
   have d0:W.cell? ⟨f,0,none⟩=some (.slice (some ⟨g,0,none⟩) (F.safe+X) c):=by rw[cell_of_row W _ 0 _ _ _ hbW];rfl
   have d1:W.cell? ⟨f,1,none⟩=some (.int .i64 F.safe):=by rw[cell_of_row W _ 1 _ _ _ hbW];rfl
   have df:W.frozen? ⟨f,1,none⟩=false:=by simp[World.frozen?,hbW]
   rw[← hW]
   have H:=hde (And.intro hbW (And.intro hkW hrW))
   clear hW hbW hkW hrW c0 c1 f0 f1
   go_wp2
   obtain⟨hbW,hkW,hrW⟩:=uh H
   have hx:FAt (W.setCell ⟨f,1,none⟩ (.int .i64 ((F.safe+X:Nat):Int))) f (crashF F k) (.slice (some ⟨g,0,none⟩) (F.safe+X) c):=by
    have e:crashF F k=⟨F.bytes.extract 0 (F.safe+X),F.safe+X⟩:=by unfold crashF;rw[hX]
    have hz:(F.bytes.extract 0 (F.safe+X)).size=F.safe+X:=by rw[ByteArray.size_extract];omega
    rw[e]
    refine file_set1 (X:=⟨F.bytes.extract 0 (F.safe+X),F.safe⟩) ⟨hbW,?_⟩ (F.safe+X)
    show World.ownsRow W 0 5 1 _ (F.bytes.extract 0 (F.safe+X)).size _
    rw[hz];exact hrW
   exact bodyPost_end (results_none rfl _ _ _) rfl ⟨rfl,.slice (some ⟨g,0,none⟩) (F.safe+X) c,by simpa using hx,rfl,hkW.setCell (fun h=>h rfl) _⟩
end Go.Proofs.YteflnddphpjahaaGreatDoor.Pk
