import Derived.Test.YtgkkdpegcieakaaGreatDoorCv03
set_option linter.all false
set_option maxRecDepth 100000
set_option maxHeartbeats 0
namespace Go.Proofs.YtgkkdpegcieakaaGreatDoor
open Go.Proofs.Tryz
open Value renaming int→Z
open Option renaming none→U,some→S
open IntKind renaming i64→Y
open Go renaming World→V5,Value→V6,Calls→V7
open Go.RowKit
theorem E7(b:V8):b.toList=b.data.toList:=by simp[UK]
namespace Sp
open Go
def jR:List (List UInt8):=[[118,97,108,117,101],[111,108,100],[105,110],[103,111,116],[115,116,101,112],[105,100],[100,101,103],[97,108,108]]
def oS:List (List UInt8):=[[43],[45],[42],[47],[37],[60],[61],[109,105,110],[109,97,120]]
def fp:List (List UInt8):=[[109,105,110],[109,97,120],[115,117,109]]
def tk(b:Bool)(x:List UInt8):Option (Nat × Nat):=if (number x).isSome=true\/x∈jR\/(b=true/\x=[119,101,105,103,104,116]) then S (0,1)
 else if x∈oS then S (2,1)
 else if x=[100,117,112] then S (1,2)
 else if x=[100,114,111,112] then S (1,0)
 else if x=[91] then S (1,0)
 else if x=[115,119,97,112] then S (2,2)
 else if x=[111,118,101,114] then S (2,3)
 else if x=[63] then S (3,1)
 else if x=[93] then S (0,0)
 else U
end Sp
section
namespace Sp
def ds(x:List UInt8):Int:=if x=[91] then 1 else if x=[93] then -1 else 0
def BK:List (List UInt8)->Nat->Int->Option Nat
 |[],_,_=>U
 |x::r,k,d=>if d+ds x=0 then S k else BK r (k+1) (d+ds x)
def kI(b:Bool):List (List UInt8)->Int->Bool
 |[],d=>decide (d=0)
 |x::r,d=>if tk b x=U\/d+ds x<0 then false else kI b r (d+ds x)
theorem Cn(x:List UInt8): -1<=ds x/\ds x<=1:=by unfold ds;split <;> (try split) <;> omega
end Sp
def NI(w:V5)(p:Option Addr)(X:List V8):Prop := ∀j (h:j<X.length),∃g b,p=S ⟨g,b,U⟩/\g<w.heap.size/\w.cell? ⟨g,b+j,U⟩=S (.string X[j])
theorem NI.below{w w':V5}{p:Option Addr}{X:List V8}(h:NI w p X)(hb:V4 w w'):NI w' p X:=λj m=>by
 obtain⟨g,b,e,l,r⟩:=h j m;exact⟨g,b,e,TI l hb.size,(hb.cell (p:=⟨g,b+j,U⟩) l).trans r⟩
def fE(X:List V8):List (List UInt8):=X.map (·.data.toList)
theorem Ee(X:List V8):(fE X).length=X.length:=by simp[fE]
theorem MC{X:List V8}{k:Nat}(h:k<X.length):(fE X)[k]'(by rw[Ee];exact h)=X[k].data.toList:=by simp[fE]
end
section
namespace Sp
def zW(L:List (List UInt8)):Nat->Nat->Nat->Nat->Option Nat
 |0,a,b,h=>S h
 |f+1,a,b,h =>
  if b<=a then S h else
  match tk true (L.getD a []) with
  |none=>U
  |some (n,m) =>
   if h<n\/16<h-n+m then U
   else if L.getD a []=[91] then
    match BK (L.drop a) a 0 with
    |none=>U
    |some e=>if zW L f (a+1) e (h-n+m)=S (h-n+m) then zW L (f-(e-a)) (e+1) b (h-n+m) else U
   else zW L f (a+1) b (h-n+m)
end Sp
end
section
namespace Sp
def zh:List (List UInt8):=[[110,101,119],[103,111],[109,115,103],[104,97,108,116],[103,105,118,101],[98,121],[97,108,108]]
def hd(i:Nat):List UInt8:=zh.getD i []++[58]
end Sp
end
section
namespace Sp
theorem Ge{x:List UInt8}{n m:Nat}(h:tk false x=S (n,m)):tk true x=S (n,m):=by
 unfold tk at h ⊢;by_cases c:(number x).isSome=true\/x∈jR\/(false=true/\x=[119,101,105,103,104,116])
 .rw[Tg c] at h;have j:(number x).isSome=true\/x∈jR\/(true=true/\x=[119,101,105,103,104,116]):=by
   rcases c with c|c|c
   .exact Or.inl c
   .exact Or.inr (Or.inl c)
   .cases c.1
  rw[Tg j];exact h
 .rw[Tf c] at h;by_cases e:x=[119,101,105,103,104,116]
  .subst e;exfalso;revert h;rw[Tf (by decide),Tf (by decide),Tf (by decide),Tf (by decide),Tf (by decide),Tf (by decide),Tf (by decide),Tf (by decide)];intro h;cases h
  .rw[Tf (λb=>c (by rcases b with b | b | b;exact Or.inl b;exact Or.inr (Or.inl b);exact absurd b.2 e))];exact h
def ws(x:V8):List V8:=split x 32
theorem qW(s:V8)(c:Nat):∀y∈split s c,y.size<=s.size:=yn s c (s.size+1)
def dQ(i:Nat)(x:V8):Bool:=decide (((ws x).headD ⟨#[]⟩).data.toList=hd i)&&(if 5<=i then decide ((ws x).tail.length=1)&&decide (((ws x).tail.headD ⟨#[]⟩).data.toList∈fp) else kI (i == 2) ((ws x).tail.map (·.data.toList)) 0 && !(ws x).tail.isEmpty)
def codeOf(s:V8)(i:Nat):List (List UInt8):=(ws ((split s 10).getD i ⟨#[]⟩)).tail.map (·.data.toList)
def comp(s:V8):Int × Int:=if 2000<s.size then (1,0) else
 match first (λi=>!dQ i ((split s 10).getD i ⟨#[]⟩)) (min 7 (split s 10).length) with
 |some i=>(3,(i:Int))
 |none=>if 7<(split s 10).length then (3,7) else if (split s 10).length<7 then (3,((split s 10).length:Int)) else
  match first (λi=>decide (zW (codeOf s i) (codeOf s i).length 0 (codeOf s i).length 0≠S 1)) 5 with
  |some i=>(7,(i:Int))
  |none=>(0,0)
end Sp
end
theorem fa{w:V5}{P i:Nat}{C:Array V6}{t:Nat}(h:w.heap[P]?=S (.cells C t (0,0)))(v:V6):(w.setCell ⟨P,i,U⟩ v).heap[P]?=S (.cells (C.setIfInBounds i v) t (0,0)):=by
 rw[setCell_eq_setRow w P i C t (0,0) v h];exact Uq w P _ _ t _ h
end Go.Proofs.YtgkkdpegcieakaaGreatDoor
