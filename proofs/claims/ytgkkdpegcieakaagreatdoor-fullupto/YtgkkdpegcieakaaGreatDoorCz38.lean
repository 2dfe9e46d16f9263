import Derived.Test.YtgkkdpegcieakaaGreatDoorCz26
set_option linter.unusedVariables false
set_option linter.unusedSimpArgs false
set_option maxRecDepth 100000
set_option maxHeartbeats 16000000
namespace Go.Proofs.YtgkkdpegcieakaaGreatDoor
open Go.Proofs.Tryz
open Value renaming int→Z
open IntKind renaming i64→Y
open Go renaming World→TJ,Value→TK,Calls→TL
section
open Go.RowKit
theorem fY.PJ{w w':TJ}{p:Option Addr}{V:List Sp.Ed}(h:fY w p V)(m:∀a,p=some a->a.block<w.heap.size->w'.heap[a.block]?=w.heap[a.block]?)(r:w.heap.size<=w'.heap.size):fY w' p V:=λj u=>by
 obtain⟨g,b,l,y,z,A⟩:=h j u;have e:=m ⟨g,0,none⟩ b l;exact⟨g,b,dT l r,(CN (a:=⟨g,j*3,none⟩) e).trans y,(CN (a:=⟨g,j*3+1,none⟩) e).trans z,(CN (a:=⟨g,j*3+2,none⟩) e).trans A⟩
end
end Go.Proofs.YtgkkdpegcieakaaGreatDoor
