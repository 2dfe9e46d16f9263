import Derived.Test.YtgkkdpegcieakaaGreatDoorCv23
set_option linter.all false
set_option maxRecDepth 100000
set_option maxHeartbeats 0
namespace Go.Proofs.YtgkkdpegcieakaaGreatDoor
open Go.Proofs.Tryz
open Value renaming int→Z
open IntKind renaming i64→Y
open Go renaming World→V5,Value→V6,Calls→V7
section
open Go.RowKit
theorem gh.QW{w w':V5}{p:Option Addr}{V:List Sp.Ed}(h:gh w p V)(m:∀a,p=some a->a.block<w.heap.size->w'.heap[a.block]?=w.heap[a.block]?)(r:w.heap.size<=w'.heap.size):gh w' p V:=λj u=>by
 obtain⟨g,b,l,y,z,A⟩:=h j u;have e:=m ⟨g,0,none⟩ b l;exact⟨g,b,TI l r,(UI (a:=⟨g,j*3,none⟩) e).trans y,(UI (a:=⟨g,j*3+1,none⟩) e).trans z,(UI (a:=⟨g,j*3+2,none⟩) e).trans A⟩
end
end Go.Proofs.YtgkkdpegcieakaaGreatDoor
