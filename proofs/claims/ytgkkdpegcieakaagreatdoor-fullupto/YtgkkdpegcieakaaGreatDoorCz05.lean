import Derived.Test.YtgkkdpegcieakaaGreatDoorCz04
set_option linter.unusedVariables false
set_option linter.unusedSimpArgs false
set_option maxRecDepth 100000
set_option maxHeartbeats 16000000
namespace Go.Proofs.YtgkkdpegcieakaaGreatDoor
open Go.Proofs.Tryz
open Value renaming int→Z
open IntKind renaming i64→Y
open Go renaming World→TJ,Value→TK,Calls→TL
section
open Go.RowKit
theorem Eb(b:TM):b.toList=b.data.toList:=by simp[B3]
end
namespace Sp
open Go
def jH:List (List UInt8):=[[118,97,108,117,101],[111,108,100],[105,110],[103,111,116],[115,116,101,112],[105,100],[100,101,103],[97,108,108]]
def oy:List (List UInt8):=[[43],[45],[42],[47],[37],[60],[61],[109,105,110],[109,97,120]]
def fj:List (List UInt8):=[[109,105,110],[109,97,120],[115,117,109]]
def tk(b:Bool)(x:List UInt8):Option (Nat × Nat):=if (number x).isSome=true\/x∈jH\/(b=true/\x=[119,101,105,103,104,116]) then some (0,1)
 else if x∈oy then some (2,1)
 else if x=[100,117,112] then some (1,2)
 else if x=[100,114,111,112] then some (1,0)
 else if x=[91] then some (1,0)
 else if x=[115,119,97,112] then some (2,2)
 else if x=[111,118,101,114] then some (2,3)
 else if x=[63] then some (3,1)
 else if x=[93] then some (0,0)
 else none
end Sp
section
open Go.RowKit
namespace Sp
def ds(x:List UInt8):Int:=if x=[91] then 1 else if x=[93] then -1 else 0
def Ao:List (List UInt8)->Nat->Int->Option Nat
 |[],_,_=>none
 |x::r,k,d=>if d+ds x=0 then some k else Ao r (k+1) (d+ds x)
def kh(b:Bool):List (List UInt8)->Int->Bool
 |[],d=>decide (d=0)
 |x::r,d=>if tk b x=none\/d+ds x<0 then false else kh b r (d+ds x)
theorem A9(x:List UInt8): -1<=ds x/\ds x<=1:=by unfold ds;split <;> (try split) <;> omega
end Sp
def JR(w:TJ)(p:Option Addr)(X:List TM):Prop := ∀j (h:j<X.length),∃g b,p=some ⟨g,b,none⟩/\g<w.heap.size/\w.cell? ⟨g,b+j,none⟩=some (.string X[j])
def fH(X:List TM):List (List UInt8):=X.map (·.data.toList)
theorem Dg(X:List TM):(fH X).length=X.length:=by simp[fH]
theorem KS{X:List TM}{k:Nat}(h:k<X.length):(fH X)[k]'(by rw[Dg];exact h)=X[k].data.toList:=by simp[fH]
end
section
open Go.RowKit
namespace Sp
def wO(L:List (List UInt8)):Nat->Nat->Nat->Nat->Option Nat
 |0,a,b,h=>some h
 |f+1,a,b,h =>
  if b<=a then some h else
  match tk true (L.getD a []) with
  |none=>none
  |some (n,m) =>
   if h<n\/16<h-n+m then none
   else if L.getD a []=[91] then
    match Ao (L.drop a) a 0 with
    |none=>none
    |some e=>if wO L f (a+1) e (h-n+m)=some (h-n+m) then wO L (f-(e-a)) (e+1) b (h-n+m) else none
   else wO L f (a+1) b (h-n+m)
termination_by f=>f
end Sp
end
section
open Go.RowKit
namespace Sp
def BL:List (List UInt8):=[[110,101,119],[103,111],[109,115,103],[104,97,108,116],[103,105,118,101],[98,121],[97,108,108]]
def hd(i:Nat):List UInt8:=BL.getD i []++[58]
end Sp
end
section
open Go.RowKit
namespace Sp
theorem F7{x:List UInt8}{n m:Nat}(h:tk false x=some (n,m)):tk true x=some (n,m):=by
 unfold tk at h ⊢;by_cases c:(number x).isSome=true\/x∈jH\/(false=true/\x=[119,101,105,103,104,116])
 .rw[cg c] at h;have j:(number x).isSome=true\/x∈jH\/(true=true/\x=[119,101,105,103,104,116]):=by
   rcases c with c|c|c
   .exact Or.inl c
   .exact Or.inr (Or.inl c)
   .cases c.1
  rw[cg j];exact h
 .rw[cd c] at h;by_cases e:x=[119,101,105,103,104,116]
  .subst e;exfalso;revert h;rw[cd (by decide),cd (by decide),cd (by decide),cd (by decide),cd (by decide),cd (by decide),cd (by decide),cd (by decide)];intro h;cases h
  .rw[cd (λb=>c (by rcases b with b | b | b;exact Or.inl b;exact Or.inr (Or.inl b);exact absurd b.2 e))];exact h
def ws(x:TM):List TM:=split x 32
theorem r9(s:TM)(c:Nat):∀y∈split s c,y.size<=s.size:=xq s c (s.size+1)
def dN(i:Nat)(x:TM):Bool:=decide (((ws x).headD ⟨#[]⟩).data.toList=hd i)&&(if 5<=i then decide ((ws x).tail.length=1)&&decide (((ws x).tail.headD ⟨#[]⟩).data.toList∈fj) else kh (i == 2) ((ws x).tail.map (·.data.toList)) 0 && !(ws x).tail.isEmpty)
def codeOf(s:TM)(i:Nat):List (List UInt8):=(ws ((split s 10).getD i ⟨#[]⟩)).tail.map (·.data.toList)
def comp(s:TM):Int × Int:=if 2000<s.size then (1,0) else
 match first (λi=>!dN i ((split s 10).getD i ⟨#[]⟩)) (min 7 (split s 10).length) with
 |some i=>(3,(i:Int))
 |none=>if 7<(split s 10).length then (3,7) else if (split s 10).length<7 then (3,((split s 10).length:Int)) else
  match first (λi=>decide (wO (codeOf s i) (codeOf s i).length 0 (codeOf s i).length 0≠some 1)) 5 with
  |some i=>(7,(i:Int))
  |none=>(0,0)
end Sp
end
section
open Go.RowKit
theorem eJ{w:TJ}{P i:Nat}{C:Array TK}{t:Nat}(h:w.heap[P]?=some (.cells C t (0,0)))(v:TK):(w.setCell ⟨P,i,none⟩ v).heap[P]?=some (.cells (C.setIfInBounds i v) t (0,0)):=by
 rw[setCell_eq_setRow w P i C t (0,0) v h];exact sT w P _ _ t _ h
end
end Go.Proofs.YtgkkdpegcieakaaGreatDoor
