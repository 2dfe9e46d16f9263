import Derived.Test.YteflnddphpjahaaGreatDoorCmRnOtoEvC
import Derived.Test.YteflnddphpjahaaGreatDoorCmRnLtoCardD
import Derived.Test.YteflnddphpjahaaGreatDoorCmSrtLtoRsA
import Derived.Test.YteflnddphpjahaaGreatDoorCmSameAtoLineD
import Derived.RangeFuncNested
import Derived.RangeFuncBound
import Derived.RangeFuncCalls
import Derived.RangeFuncLeaves
import Derived.RangeFuncBox
import Derived.Maps.AppendAt
import Derived.Shelf.Abstract
import Derived.Shelf.RegionOpen
import Derived.WalkKit
import Derived.OwnWalkIn
import Derived.TacticsInMore
import Derived.LoopNIn
import Derived.LoopIn
import Derived.Test.YteflnddphpjahaaGreatDoorCmTabCtoGatB
set_option linter.unusedVariables false
set_option linter.unusedSimpArgs false
set_option maxRecDepth 100000
set_option maxHeartbeats 16000000
namespace Go.Proofs.YteflnddphpjahaaGreatDoor
open Go.RowKit
def PartPost (L:List (List UInt8)) (E:Sp.Ev) (D:Nat) (s0:Sp.Ms) (b:Nat) (lp:List (Int × Nat)) (f0:Nat) (w:World) (e:Ending) (w':World):Prop :=
 e = .returned (.tuple #[])∧Below D w w'∧((∃ f T,f≤f0∧Sp.SInv L E s0 ⟨b,f,T,lp⟩∧DogS w' D E T (f:Int) false)∨(Sp.rn L E s0=none∧∃ T f,DogS w' D E T f true))
def WsIn (w:World) (D:Nat) (p:Option Addr) (X:List ByteArray):Prop := ∀ j (h:j < X.length),∃ g off,p=some ⟨g,off,none⟩∧g < D∧w.cell? ⟨g,off+j,none⟩=some (.string X[j])
theorem WsIn.below {w w':World} {D:Nat} {p:Option Addr} {X:List ByteArray} (h:WsIn w D p X) (hb:Below D w w'):WsIn w' D p X:=fun j hj=>by
 obtain⟨g,off,a,b,c⟩:=h j hj
 exact⟨g,off,a,b,(hb.cell (p:=⟨g,off+j,none⟩) b).trans c⟩
theorem WsIn.at {w:World} {D:Nat} {p:Option Addr} {X:List ByteArray} (h:WsIn w D p X) (hD:D≤w.heap.size):SAt w p X:=fun j hj=>by
 obtain⟨g,off,a,b,c⟩:=h j hj
 exact⟨g,off,a,by omega,c⟩
def PartLaw (X:List ByteArray) (E:Sp.Ev) (N:Nat):Prop := ∀ (D:Nat) (p:Option Addr) (cap a b f:Nat) (T:List Int) (lp:List (Int × Nat)) (s0:Sp.Ms) (w:World),f < N→Sp.Seg (lst X) a b→WsIn w D p X→DogS w D E T (f:Int) false→Sp.SInv (lst X) E s0 ⟨a,f,T,lp⟩→s0.fuel≤200 →
 Calls Tryz.prog 160 #[.pointer (some ⟨D,0,none⟩),.slice p X.length cap,.int .i64 a,.int .i64 b] w (PartPost (lst X) E D s0 b lp f w)
def RoundLaw (X:List ByteArray) (E:Sp.Ev) (N:Nat):Prop := ∀ (D:Nat) (p:Option Addr) (cap i b f:Nat) (T:List Int) (lp:List (Int × Nat)) (s0:Sp.Ms) (w:World),f < N→Sp.Seg (lst X) (i+1) b→i < (lst X).length→b < (lst X).length→(lst X).getD i []=[91]→(lst X).getD b []=[93]→Sp.clo ((lst X).drop i) i 0=some b→WsIn w D p X→DogS w D E T (f:Int) false→Sp.SInv (lst X) E s0 ⟨i,f+1,T,lp⟩→s0.fuel≤200 →
 Calls Tryz.prog 240 #[.pointer (some ⟨D,0,none⟩),.slice p X.length cap,.int .i64 ((i+1:Nat):Int),.int .i64 b] w (PartPost (lst X) E D s0 (b+1) lp f w)
def RndInv (L:List (List UInt8)) (E:Sp.Ev) (D:Nat) (s0:Sp.Ms) (i b f0:Nat) (n:Int) (lp:List (Int × Nat)) (w:World) (k:Int) (wr:World):Prop :=
 Below D w wr∧((k < n∧∃ f T,f≤f0∧Sp.SInv L E s0 ⟨i+1,f,T,(n - k,i) :: lp⟩∧DogS wr D E T (f:Int) false)∨(¬ k < n∧∃ f T,f≤f0∧Sp.SInv L E s0 ⟨b+1,f,T,lp⟩∧DogS wr D E T (f:Int) false)∨(Sp.rn L E s0=none∧∃ T f,DogS wr D E T f true))
theorem rounds_law {X:List ByteArray} {E:Sp.Ev} (hL:Sp.Good (lst X)) (hE:Sp.EvOk E) {N:Nat} (hP:PartLaw X E N):RoundLaw X E N:=by
 intro D p cap i b f T lp s0 w hf hseg hi hb hx hy hclo hws hd hs hs0
 have hx':(lst X)[i]=[91]:=by rw[← Sp.getD_of hi];exact hx
 obtain⟨n,T1,hT⟩:=Sp.open_has hL hs.hi hi hx'
 simp only at hT
 subst hT
 have hlen:=Sp.hinv_len hL hs.hi
 simp only[List.length_cons] at hlen
 have hn64:=hs.vi.T n (List.mem_cons_self ..)
 have HS:=hde hs
 have HP:=hde hP
 have HW:=hde hws
 have HC:=hde (And.intro hL (And.intro hE (And.intro hseg (And.intro hi (And.intro hb (And.intro hx (And.intro hy hclo)))))))
 have hfu:=hs.fu
 simp only at hfu
 unfold Sp.i64 at hn64
 obtain⟨hn1,hn2⟩:=hn64
 have hbl:b≤4000:=by have:=hL.len;omega
 have hil:i+1≤4000:=by have:=hL.len;omega
 clear hs hP hws hL hE hseg hi hb hx hx' hy hclo
 generalize hO:PartPost (lst X) E D s0 (b+1) lp f w=O
 replace hO:=hde hO
 go_enter Tryz.func240,Tryz.ntmps240
 go_wp2_with fail
 refine(dpop n D E T1 (f:Int) false w hd (by omega)).mono ?_
 rintro e w1 ⟨rfl,hd1,hb1⟩
 have HI0:Hid (RndInv (lst X) E D s0 i b f n lp w 0 w1):=by
  obtain⟨hL,hE,hseg,hi,hb,hx,hy,hclo⟩:=uh HC
  have hx':(lst X)[i]=[91]:=by rw[← Sp.getD_of hi];exact hx
  refine⟨hb1,?_⟩
  by_cases c:n < 1
  ·exact Or.inr (Or.inl ⟨by omega,f,T1,Nat.le_refl _,(uh HS).step hL hE num_i64 hi (Sp.step_open0 hi hx' hclo c),hd1⟩)
  ·refine Or.inl ⟨by omega,f,T1,Nat.le_refl _,?_,hd1⟩
   rw[Int.sub_zero]
   exact(uh HS).step hL hE num_i64 hi (Sp.step_open1 hi hx' c)
 clear hd hd1 hb1
 go_wp2_with fail
 go_loopw [9] (fun u wr=>∃ k:Int,u = .int .i64 k∧0≤k∧(k≤n∨k=0)∧Hid (RndInv (lst X) E D s0 i b f n lp w k wr)) (fun u _=>(n - intOf u).toNat)
 case atStart=>exact⟨0,rfl,Int.le_refl _,Or.inr rfl,HI0⟩
 case round =>
  clear HI0
  obtain⟨k,rfl,hk0,hkn,HI⟩:=hrel
  obtain⟨hbw,hway⟩:=uh HI
  rcases hway with ⟨hlt,f',T',hf',hs',hd'⟩ | ⟨hge,f',T',hf',hs',hd'⟩ | ⟨hnone,T',f',hd'⟩
  ·have hq:Calls Tryz.prog 160 #[.pointer (some ⟨D,0,none⟩),.slice p X.length cap,.int .i64 ((i+1:Nat):Int),.int .i64 b] wr (PartPost (lst X) E D s0 b ((n - k,i) :: lp) f' wr):=
    uh HP D p cap (i+1) b f' T' ((n - k,i) :: lp) s0 wr (by omega) (uh HC).2.2.1 ((uh HW).below hbw) hd' hs' hs0
   have HQ:=hde hq
   have k1:wr.cell? ⟨D,11,none⟩=some (.bool false):=by obtain⟨x,hx⟩:=hd';exact hx.fa
   clear hq hs' hd'
   have hltb:decide (k < n)=true:=decide_eq_true hlt
   go_wp2_with fail
   refine(uh HQ).mono ?_
   rintro e w2 ⟨rfl,hb2,⟨f2,T2,hff,hs2,hd2⟩ | ⟨hnone,T2,f2,hd2⟩⟩
   ·have k2:w2.cell? ⟨D,11,none⟩=some (.bool false):=by obtain⟨x,hx⟩:=hd2;exact hx.fa
    have hf2:=hs2.fu
    simp only at hf2
    cases f2 with
    | zero =>
     have HN:Hid (Sp.rn (lst X) E s0=none):=by
      show _=_
      rw[hs2.run];exact Sp.rn_dry (uh HC).2.2.2.2.1 rfl
     clear hs2
     go_wp2_with fail
     refine(dpays0 D E T2 w2 hd2).mono ?_
     rintro e w3 ⟨rfl,hd3,hb3⟩
     have HI3:Hid (RndInv (lst X) E D s0 i b f n lp w (k+1) w3):=⟨(hbw.trans hb2).trans hb3,Or.inr (Or.inr ⟨uh HN,_,_,hd3⟩)⟩
     clear hd2 hd3 hb2 hb3
     go_wp2
     go_roundw
     case rel=>exact⟨k+1,by go_num,by omega,by omega,HI3⟩
     case measure=>simp[intOf];omega
    | succ f2 =>
     have HI2:Hid (∀ w3,Below D w2 w3→DogS w3 D E T2 (f2:Int) false→RndInv (lst X) E D s0 i b f n lp w (k+1) w3):=by
      show ∀ w3,_
      intro w3 hb3 hd3
      obtain⟨hL,hE,hseg,hi,hb,hx,hy,hclo⟩:=uh HC
      have hx':(lst X)[i]=[91]:=by rw[← Sp.getD_of hi];exact hx
      refine⟨(hbw.trans hb2).trans hb3,?_⟩
      by_cases c:1 < n - k
      ·refine Or.inl ⟨by omega,f2,T2,by omega,?_,hd3⟩
       ·rw[show n - (k+1)=n - k - 1 by omega]
        exact hs2.step hL hE num_i64 hb (Sp.step_shut1 hy c)
      ·exact Or.inr (Or.inl ⟨by omega,f2,T2,by omega,hs2.step hL hE num_i64 hb (Sp.step_shut0 hy c),hd3⟩)
     clear hs2
     go_wp2_with fail
     refine(dpays1 D E T2 f2 w2 hd2 (by omega)).mono ?_
     rintro e w3 ⟨rfl,hd3,hb3⟩
     have HI3:=hde (uh HI2 w3 hb3 hd3)
     clear hd2 hd3 hb2 hb3 HI2
     go_wp2
     go_roundw
     case rel=>exact⟨k+1,by go_num,by omega,by omega,HI3⟩
     case measure=>simp[intOf];omega
   ·have k2:w2.cell? ⟨D,11,none⟩=some (.bool true):=by obtain⟨x,hx⟩:=hd2;exact hx.fa
    have HI3:Hid (RndInv (lst X) E D s0 i b f n lp w (k+1) w2):=⟨hbw.trans hb2,Or.inr (Or.inr ⟨hnone,_,_,hd2⟩)⟩
    clear hd2 hb2 hnone
    go_wp2
    go_roundw
    case rel=>exact⟨k+1,by go_num,by omega,by omega,HI3⟩
    case measure=>simp[intOf];omega
  ·have HF:Hid (O (.returned (.tuple #[])) wr):=by
    show O _ _
    rw[← uh hO];exact⟨rfl,hbw,Or.inl ⟨f',T',hf',hs',hd'⟩⟩
   have hltb:decide (k < n)=false:=decide_eq_false hge
   clear hs' hd'
   go_wp2
   exact bodyPost_end (results_none rfl _ _ _) rfl (uh HF)
  ·have HF:Hid (O (.returned (.tuple #[])) wr):=by
    show O _ _
    rw[← uh hO];exact⟨rfl,hbw,Or.inr ⟨hnone,T',f',hd'⟩⟩
   have k1:wr.cell? ⟨D,11,none⟩=some (.bool true):=by obtain⟨x,hx⟩:=hd';exact hx.fa
   clear hd' hnone
   by_cases c:k < n
   ·have hltb:decide (k < n)=true:=decide_eq_true c
    go_wp2
    exact bodyPost_end (results_none rfl _ _ _) rfl (uh HF)
   ·have hltb:decide (k < n)=false:=decide_eq_false c
    go_wp2
    exact bodyPost_end (results_none rfl _ _ _) rfl (uh HF)
theorem tk_cases {x:List UInt8} (h1:x≠[91]) (h2:x≠[93]) {n m:Nat} (ht:Sp.tk true x=some (n,m)):(∃ v,Sp.number x=some v)∨(Sp.number x=none∧(x ∈ Sp.loadsL∨x=[119,101,105,103,104,116]))∨(Sp.number x=none∧¬ (x ∈ Sp.loadsL∨x=[119,101,105,103,104,116])∧x ∈ Sp.twosL∧n=2) ∨
  (Sp.number x=none∧¬ (x ∈ Sp.loadsL∨x=[119,101,105,103,104,116])∧¬ x ∈ Sp.twosL∧((x=[100,117,112]∧n=1)∨(x=[100,114,111,112]∧n=1)∨(x=[115,119,97,112]∧n=2)∨(x=[111,118,101,114]∧n=2)∨(x=[63]∧n=3))):=by
 unfold Sp.tk at ht
 cases hn:Sp.number x with
 | some v=>exact Or.inl ⟨v,rfl⟩
 | none =>
  rw[hn] at ht
  simp only[Option.isSome_none,Bool.false_eq_true,false_or,true_and] at ht
  by_cases a1:x ∈ Sp.loadsL∨x=[119,101,105,103,104,116]
  ·exact Or.inr (Or.inl ⟨rfl,a1⟩)
  ·rw[if_neg a1] at ht
   by_cases a2:x ∈ Sp.twosL
   ·rw[if_pos a2] at ht
    injection ht with ht;injection ht with t1 t2
    exact Or.inr (Or.inr (Or.inl ⟨rfl,a1,a2,t1.symm⟩))
   ·rw[if_neg a2] at ht
    refine Or.inr (Or.inr (Or.inr ⟨rfl,a1,a2,?_⟩))
    by_cases a3:x=[100,117,112]
    ·rw[if_pos a3] at ht
     injection ht with ht;injection ht with t1 t2
     exact Or.inl ⟨a3,t1.symm⟩
    ·rw[if_neg a3] at ht
     by_cases a4:x=[100,114,111,112]
     ·rw[if_pos a4] at ht
      injection ht with ht;injection ht with t1 t2
      exact Or.inr (Or.inl ⟨a4,t1.symm⟩)
     ·rw[if_neg a4,if_neg h1] at ht
      by_cases a5:x=[115,119,97,112]
      ·rw[if_pos a5] at ht
       injection ht with ht;injection ht with t1 t2
       exact Or.inr (Or.inr (Or.inl ⟨a5,t1.symm⟩))
      ·rw[if_neg a5] at ht
       by_cases a6:x=[111,118,101,114]
       ·rw[if_pos a6] at ht
        injection ht with ht;injection ht with t1 t2
        exact Or.inr (Or.inr (Or.inr (Or.inl ⟨a6,t1.symm⟩)))
       ·rw[if_neg a6] at ht
        by_cases a7:x=[63]
        ·rw[if_pos a7] at ht
         injection ht with ht;injection ht with t1 t2
         exact Or.inr (Or.inr (Or.inr (Or.inr ⟨a7,t1.symm⟩)))
        ·rw[if_neg a7,if_neg h2] at ht
         cases ht
theorem dturn (x:ByteArray) (T:List Int) (n:Nat) (hx:(x.data.toList=[100,117,112]∧n=1)∨(x.data.toList=[100,114,111,112]∧n=1)∨(x.data.toList=[115,119,97,112]∧n=2)∨(x.data.toList=[111,118,101,114]∧n=2)∨(x.data.toList=[63]∧n=3)) (hn:n≤T.length) (D:Nat) (E:Sp.Ev) (fuel:Int) (w:World) (h:DogS w D E T fuel false) (hT:T.length≤1000) :
  Calls Tryz.prog 244 #[.pointer (some ⟨D,0,none⟩),.string x] w (DPost (Sp.weff E x.data.toList T) D E fuel w):=by
 obtain⟨⟨l⟩⟩:=x
 simp only at hx ⊢
 rcases hx with ⟨rfl,rfl⟩ | ⟨rfl,rfl⟩ | ⟨rfl,rfl⟩ | ⟨rfl,rfl⟩ | ⟨rfl,rfl⟩
 ·obtain⟨a,r,rfl⟩:=one_of hn
  simp only[List.length_cons] at hT
  exact dturn_dup a D E r fuel w h (by omega)
 ·obtain⟨a,r,rfl⟩:=one_of hn
  simp only[List.length_cons] at hT
  exact dturn_drop a D E r fuel w h (by omega)
 ·obtain⟨b,a,r,rfl⟩:=two_of hn
  simp only[List.length_cons] at hT
  exact dturn_swap a b D E r fuel w h (by omega)
 ·obtain⟨b,a,r,rfl⟩:=two_of hn
  simp only[List.length_cons] at hT
  exact dturn_over a b D E r fuel w h (by omega)
 ·obtain⟨c,b,a,r,rfl⟩:=three_of hn
  simp only[List.length_cons] at hT
  exact dturn_pick a b c D E r fuel w h (by omega)
structure PrtInv (L:List (List UInt8)) (E:Sp.Ev) (D:Nat) (s0:Sp.Ms) (b f0:Nat) (lp:List (Int × Nat)) (w wr:World) (i f:Nat) (T:List Int):Prop where
 seg:Sp.Seg L i b
 inv:Sp.SInv L E s0 ⟨i,f,T,lp⟩
 dog:DogS wr D E T (f:Int) false
 fu:f≤f0
 bel:Below D w wr
theorem PrtInv.word {L:List (List UInt8)} {E:Sp.Ev} {D:Nat} {s0:Sp.Ms} {b f0:Nat} {lp:List (Int × Nat)} {w wr w':World} {i f:Nat} {T:List Int} (hL:Sp.Good L) (hE:Sp.EvOk E) (h:PrtInv L E D s0 b f0 lp w wr i (f+1) T) (hi:i < b) (h1:L[i]'(by have:=h.seg.len;omega)≠[91]) (hb:Below D wr w') :
  (∀ T',Sp.weff E (L[i]'(by have:=h.seg.len;omega)) T=some T'→DogS w' D E T' (f:Int) false→PrtInv L E D s0 b f0 lp w w' (i+1) f T')∧(Sp.weff E (L[i]'(by have:=h.seg.len;omega)) T=none→Sp.rn L E s0=none):=by
 have hil:i < L.length:=by have:=h.seg.len;omega
 have hst:=Sp.step_plain (E:=E) (f:=f) (T:=T) (lp:=lp) hil h1 (h.seg.word hi).2
 constructor
 ·intro T' hw hd
  rw[hw] at hst
  exact⟨h.seg.next hi h1,h.inv.step hL hE num_i64 hil hst,hd,by have:=h.fu;omega,h.bel.trans hb⟩
 ·intro hw
  rw[hw] at hst
  exact h.inv.fail hil hst
open Classical in
theorem part_law {X:List ByteArray} {E:Sp.Ev} (hX:Coded X) (hL:Sp.Good (lst X)) (hE:Sp.EvOk E):∀ N,PartLaw X E N:=by
 intro N
 induction N with
 | zero=>intro D p cap a b f T lp s0 w hf;omega
 | succ N ih =>
 have HR:=hde (rounds_law hL hE ih)
 clear ih
 intro D p cap a b f T lp s0 w hf hseg hws hd hs hs0
 have HC:=hde (And.intro hL (And.intro hE hX))
 have HW:=hde hws
 have hlen:=hX.len
 have hbl:b≤X.length:=by have:=hseg.len;rw[lst_len] at this;exact this
 have HI0:Hid (PrtInv (lst X) E D s0 b f lp w w a f T):=⟨hseg,hs,hd,Nat.le_refl _,Below.refl _ _⟩
 have hab:=hseg.le
 clear hL hE hX hws hseg hd hs
 generalize hO:PartPost (lst X) E D s0 b lp f w=O
 replace hO:=hde hO
 go_enter Tryz.func160,Tryz.ntmps160
 go_wp2
 go_loopw [8] (fun u wr=>∃ (i f':Nat) (T':List Int),u = .int .i64 i∧i≤b∧Hid (PrtInv (lst X) E D s0 b f lp w wr i f' T')) (fun u _=>b - (intOf u).toNat)
 case atStart=>exact⟨a,f,T,rfl,hab,HI0⟩
 case round =>
  clear HI0
  obtain⟨i,f',T',rfl,hib,HI⟩:=hrel
  have hbw:=(uh HI).bel
  have hd':=(uh HI).dog
  by_cases hlt:i < b
  ·have hltz:(i:Int) < (b:Int):=by omega
   cases f' with
   | zero =>
    have HF:Hid (∀ w',Below D wr w'→(∃ T f,DogS w' D E T f true)→O (.returned (.tuple #[])) w'):=by
     show ∀ w',_
     intro w' hb' hd2
     have hI:=uh HI
     rw[← uh hO]
     exact⟨rfl,hbw.trans hb',Or.inr ⟨hI.inv.run.trans (Sp.rn_dry (by have:=hI.seg.len;simp only;omega) rfl),hd2⟩⟩
    go_wp2_with fail
    refine(dpays0 D E T' wr hd').mono ?_
    rintro e w1 ⟨rfl,hd1,hb1⟩
    go_wp2
    exact bodyPost_ret (results_none rfl _ _ _) rfl (uh HF w1 hb1 ⟨_,_,hd1⟩)
   | succ f' =>
    have hff:=(uh HI).fu
    have hfs:=(uh HI).inv.fu
    simp only at hfs
    have hix:i < X.length:=by omega
    have hil:i < (lst X).length:=by rw[lst_len];exact hix
    have hTl:=Sp.hinv_len (uh HC).1 (uh HI).inv.hi
    simp only at hTl
    obtain⟨g,off,rfl,hg1,hg2⟩:=((uh HW).below hbw) i hix
    have hwd:=(uh HC).2.2.wds X[i] (List.getElem_mem hix)
    obtain⟨x,hx⟩:∃ x,X[i]=x:=⟨_,rfl⟩
    rw[hx] at hg2 hwd
    have HX:Hid ((lst X)[i]=x.data.toList):=by show _=_;rw[lst_get hix,hx]
    clear hx
    go_wp2_with fail
    refine(dpays1 D E T' f' wr hd' (by omega)).mono ?_
    rintro e w1 ⟨rfl,hd1,hb1⟩
    have hg3:w1.cell? ⟨g,off+i,none⟩=some (.string x):=(hb1.cell (p:=⟨g,off+i,none⟩) hg1).trans hg2
    have k1:w1.cell? ⟨D,11,none⟩=some (.bool false):=by obtain⟨q,hq⟩:=hd1;exact hq.fa
    obtain⟨nv,HV⟩:∃ nv,Hid (Sp.number x.data.toList=nv):=⟨_,rfl⟩
    obtain⟨lb,HLB⟩:∃ b:Bool,Hid (b=decide (x.data.toList ∈ Sp.loadsL)):=⟨_,rfl⟩
    obtain⟨tb,HTB⟩:∃ b:Bool,Hid (b=decide (x.data.toList ∈ Sp.twosL)):=⟨_,rfl⟩
    have H1:Hid (Calls Tryz.prog 238 #[.string x] w1 fun e w'=>e = .returned (.tuple #[.int .i64 (nv.getD 0),.bool nv.isSome])∧w'=w1):=by
     have h:=number_any x w1 hwd.2
     rw[uh HV] at h
     exact h
    have H2:Hid (Calls Tryz.prog 108 #[.string ⟨#[32,118,97,108,117,101,32,111,108,100,32,105,110,32,103,111,116,32,115,116,101,112,32,105,100,32,100,101,103,32,97,108,108,32]⟩,.string x] w1 fun e w'=>e = .returned (.bool lb)∧w'=w1):=by
     have h:=in_any ⟨#[32,118,97,108,117,101,32,111,108,100,32,105,110,32,103,111,116,32,115,116,101,112,32,105,100,32,100,101,103,32,97,108,108,32]⟩ x w1 (by decide) hwd.2
     rw[decide_eq_decide.2 (Sp.in_loads hwd.1),← uh HLB] at h
     exact h
    have H3:Hid (Calls Tryz.prog 108 #[.string ⟨#[32,43,32,45,32,42,32,47,32,37,32,60,32,61,32,109,105,110,32,109,97,120,32]⟩,.string x] w1 fun e w'=>e = .returned (.bool tb)∧w'=w1):=by
     have h:=in_any ⟨#[32,43,32,45,32,42,32,47,32,37,32,60,32,61,32,109,105,110,32,109,97,120,32]⟩ x w1 (by decide) hwd.2
     rw[decide_eq_decide.2 (Sp.in_twos hwd.1),← uh HTB] at h
     exact h
    have HD1:=hde hd1
    clear hd1 hd'
    go_wp2_with fail
    refine(uh H1).mono ?_
    rintro e wn ⟨rfl,hwn⟩
    obtain rfl:=hwn.symm
    clear hwn
    go_wp2_with fail
    refine(uh H3).mono ?_
    rintro e wn ⟨rfl,hwn⟩
    obtain rfl:=hwn.symm
    clear hwn
    go_wp2_with fail
    refine(uh H2).mono ?_
    rintro e wn ⟨rfl,hwn⟩
    obtain rfl:=hwn.symm
    clear hwn H1 H2 H3
    by_cases c91:x.data.toList=[91]
    ·have g3:(x.toList == [91])=true:=toList_is c91
     obtain⟨e,he1,he2,he3,he4,he5,he6⟩:=(uh HI).seg.loop hlt ((uh HX).trans c91)
     have hq:Calls Tryz.prog 240 #[.pointer (some ⟨D,0,none⟩),.slice (some ⟨g,off,none⟩) X.length cap,.int .i64 ((i+1:Nat):Int),.int .i64 e] w1 (PartPost (lst X) E D s0 (e+1) lp f' w1):=
      uh HR D _ cap i e f' T' lp s0 w1 (by omega) he5 hil (by rw[lst_len];omega) (by rw[Sp.getD_of hil,uh HX];exact c91) he4 he1 ((uh HW).below (hbw.trans hb1)) (uh HD1) (uh HI).inv hs0
     have HCE:Hid (Sp.cloI (Sp.clo ((lst X).drop i) i 0)=(e:Int)):=by show _=_;rw[he1];rfl
     have hsa:SAt w1 (some ⟨g,off,none⟩) X:=((uh HW).below (hbw.trans hb1)).at (by obtain⟨q,hq⟩:=uh HD1;exact Nat.le_of_lt hq.lt)
     have HQ:=hde hq
     have HE6:=hde he6
     have hel:e < X.length:=by omega
     clear hq he1 he4 he5 he6
     have HIW:Hid (∀ w',Below D w1 w'→(∃ f2 T2,f2≤f'∧Sp.SInv (lst X) E s0 ⟨e+1,f2,T2,lp⟩∧DogS w' D E T2 (f2:Int) false)→∃ f2 T2,PrtInv (lst X) E D s0 b f lp w w' (e+1) f2 T2):=by
      show ∀ w',_
      rintro w' hb' ⟨f2,T2,hf2,hs2,hd2⟩
      exact⟨f2,T2,uh HE6,hs2,hd2,by omega,(hbw.trans hb1).trans hb'⟩
     have HF:Hid (∀ w',Below D w1 w'→Sp.rn (lst X) E s0=none→(∃ T f,DogS w' D E T f true)→O (.returned (.tuple #[])) w'):=by
      show ∀ w',_
      intro w' hb' hn hd2
      rw[← uh hO]
      exact⟨rfl,(hbw.trans hb1).trans hb',Or.inr ⟨hn,hd2⟩⟩
     have hwi:IntKind.i64.wrap ((i:Int)+1)=((i+1:Nat):Int):=by rw[IntKind.wrap_i64];omega
     have HQ2:Hid (∀ a':Int,a'=((i+1:Nat):Int)→Calls Tryz.prog 240 #[.pointer (some ⟨D,0,none⟩),.slice (some ⟨g,off,none⟩) X.length cap,.int .i64 a',.int .i64 e] w1 (PartPost (lst X) E D s0 (e+1) lp f' w1)):=by
      show ∀ a',_
      intro a' ha;subst ha;exact uh HQ
     clear c91
     go_wp2_with fail
     refine(closes_any _ cap i X _ hsa hlen (by omega)).mono ?_
     rintro e' wn ⟨rfl,hwn⟩
     obtain rfl:=hwn.symm
     rw[uh HCE]
     clear hwn hsa HCE
     go_wp2_with fail
     refine(uh HQ2 _ (by omega)).mono ?_
     rintro e' w2 ⟨rfl,hb2,hgo | ⟨hn,hd2⟩⟩
     ·obtain⟨f2,T2,HI2⟩:=uh HIW w2 hb2 hgo
      have k2:w2.cell? ⟨D,11,none⟩=some (.bool false):=by obtain⟨q,hq⟩:=HI2.dog;exact hq.fa
      replace HI2:=hde HI2
      clear hgo hb2
      go_wp2
      go_roundw
      case rel=>exact⟨e+1,f2,T2,by go_num,by omega,HI2⟩
      case measure=>simp[intOf];omega
     ·have k2:w2.cell? ⟨D,11,none⟩=some (.bool true):=by obtain⟨T2,f2,q,hq⟩:=hd2;exact hq.fa
      have HF2:=hde (uh HF w2 hb2 hn hd2)
      clear hd2 hn hb2
      go_wp2
      exact bodyPost_ret (results_none rfl _ _ _) rfl (uh HF2)
    ·have g3:(x.toList == [91])=false:=toList_ne c91
     have h1:(lst X)[i]≠[91]:=by rw[uh HX];exact c91
     obtain⟨n,m,ht,hn⟩:=Sp.word_has (uh HC).1 (uh HI).inv.hi hil h1 ((uh HI).seg.word hlt).2
     simp only at hn ht
     have h93:x.data.toList≠[93]:=by rw[← uh HX];exact((uh HI).seg.word hlt).2
     have HWD:Hid (∀ w' e,DPost (Sp.weff E x.data.toList T') D E (f':Int) w1 e w'→e = .returned (.tuple #[])∧((∃ T2,PrtInv (lst X) E D s0 b f lp w w' (i+1) f' T2)∨((∃ T f,DogS w' D E T f true)∧O (.returned (.tuple #[])) w'))):=by
      show ∀ w' e,_
      rintro w' e ⟨he,hb',hm⟩
      have hIW:=(uh HI).word (uh HC).1 (uh HC).2.1 hlt h1 (hb1.trans hb')
      rw[uh HX] at hIW
      refine⟨he,?_⟩
      cases hw:Sp.weff E x.data.toList T' with
      | some T2=>rw[hw] at hm;exact Or.inl ⟨T2,hIW.1 T2 hw hm⟩
      | none =>
       rw[hw] at hm
       obtain⟨T2,hd2⟩:=hm
       refine Or.inr ⟨⟨T2,_,hd2⟩,?_⟩
       rw[← uh hO]
       exact⟨rfl,(hbw.trans hb1).trans hb',Or.inr ⟨hIW.2 hw,T2,_,hd2⟩⟩
     rw[uh HX] at ht
     have htc:=tk_cases c91 h93 ht
     have hyes:∀ {c:Prop} [Decidable c] {b:Bool},b=decide c→c→b=true:=fun h1 h2=>h1.trans (decide_eq_true h2)
     have hno:∀ {c:Prop} [Decidable c] {b:Bool},b=decide c→¬ c→b=false:=fun h1 h2=>h1.trans (decide_eq_false h2)
     clear ht c91 h93 h1 hwd
     rcases htc with ⟨v,hv⟩ | ⟨hv,hld⟩ | ⟨hv,hnl,htw,rfl⟩ | ⟨hv,hnl,hntw,htu⟩
     ·obtain rfl:some v=nv:=hv.symm.trans (uh HV)
      have HPU:Hid (Calls Tryz.prog 241 #[.pointer (some ⟨D,0,none⟩),.int .i64 v] w1 (DPost (Sp.weff E x.data.toList T') D E (f':Int) w1)):=by
       refine(dpush v D E T' _ _ w1 (uh HD1) (by omega)).mono ?_
       rintro e w2 ⟨rfl,hd2,hb2⟩
       have hwf:Sp.weff E x.data.toList T'=some (v :: T'):=by unfold Sp.weff;rw[hv]
       rw[hwf]
       exact⟨rfl,hb2,hd2⟩
      clear hv
      go_wp2_with fail
      refine(uh HPU).mono ?_
      rintro e' w2 hp2
      obtain⟨rfl,hway⟩:=uh HWD w2 e' hp2
      rcases hway with ⟨T2,hI2⟩ | ⟨hd2,hO2⟩
      ·have k2:w2.cell? ⟨D,11,none⟩=some (.bool false):=by obtain⟨q,hq⟩:=hI2.dog;exact hq.fa
       have HI2:=hde hI2
       clear hI2 hp2
       go_wp2
       go_roundw
       case rel=>exact⟨i+1,f',T2,by go_num,by omega,HI2⟩
       case measure=>simp[intOf];omega
      ·have k2:w2.cell? ⟨D,11,none⟩=some (.bool true):=by obtain⟨T2,f2,q,hq⟩:=hd2;exact hq.fa
       clear hd2 hp2
       go_wp2
       exact bodyPost_ret (results_none rfl _ _ _) rfl hO2
     ·obtain rfl:none=nv:=hv.symm.trans (uh HV)
      have HPU:Hid (∀ W,Below w1.heap.size w1 W→Calls Tryz.prog 241 #[.pointer (some ⟨D,0,none⟩),.int .i64 (Sp.ldv E x.data.toList)] W (DPost (Sp.weff E x.data.toList T') D E (f':Int) w1)):=by
       show ∀ W,_
       intro W hbW
       have hdW:DogS W D E T' (f':Int) false:=by obtain⟨q,hq⟩:=uh HD1;exact⟨q,hq.below hbW⟩
       have hlt1:D≤w1.heap.size:=by obtain⟨q,hq⟩:=uh HD1;exact Nat.le_of_lt hq.lt
       refine(dpush _ D E T' _ _ W hdW (by omega)).mono ?_
       rintro e w2 ⟨rfl,hd2,hb2⟩
       rw[Sp.weff_ld hv hld]
       exact⟨rfl,(hbW.mono hlt1).trans hb2,hd2⟩
      have HST:=hde (dstands x hld E w1)
      have HLC:Hid ((lb=true)∨(lb=false∧(x.toList == [119,101,105,103,104,116])=true)):=by
       show _∨_
       by_cases hl:x.data.toList ∈ Sp.loadsL
       ·exact Or.inl (hyes (uh HLB) hl)
       ·exact Or.inr ⟨hno (uh HLB) hl,toList_is (hld.resolve_left hl)⟩
      obtain⟨q,hq⟩:=uh HD1
      have z0:=hq.e0
      have z1:=hq.e1
      have z2:=hq.e2
      have z3:=hq.e3
      have z4:=hq.e4
      have z5:=hq.e5
      have z6:=hq.e6
      have z7:=hq.e7
      have z8:=hq.e8
      clear hq hld hv
      rcases uh HLC with hlc | ⟨hlc,gw⟩
      all_goals
       subst hlc
       go_wp2_with fail
       refine(uh HST).mono ?_
       rintro e' wz ⟨rfl,hbz⟩
       go_wp2_with fail
       refine(uh HPU wz hbz).mono ?_
       rintro e' w2 hp2
       obtain⟨rfl,hway⟩:=uh HWD w2 e' hp2
       rcases hway with ⟨T2,hI2⟩ | ⟨hd2,hO2⟩
       ·have k2:w2.cell? ⟨D,11,none⟩=some (.bool false):=by obtain⟨q,hq⟩:=hI2.dog;exact hq.fa
        have HI2:=hde hI2
        clear hI2 hp2
        go_wp2
        go_roundw
        case rel=>exact⟨i+1,f',T2,by go_num,by omega,HI2⟩
        case measure=>simp[intOf];omega
       ·have k2:w2.cell? ⟨D,11,none⟩=some (.bool true):=by obtain⟨T2,f2,q,hq⟩:=hd2;exact hq.fa
        clear hd2 hp2
        go_wp2
        exact bodyPost_ret (results_none rfl _ _ _) rfl hO2
     ·obtain rfl:none=nv:=hv.symm.trans (uh HV)
      obtain rfl:=hyes (uh HTB) htw
      obtain rfl:=hno (uh HLB) (fun h=>hnl (Or.inl h))
      have gw:(x.toList == [119,101,105,103,104,116])=false:=toList_ne (fun h=>hnl (Or.inr h))
      have HPU:Hid (Calls Tryz.prog 243 #[.pointer (some ⟨D,0,none⟩),.string x] w1 (DPost (Sp.weff E x.data.toList T') D E (f':Int) w1)):=by
       obtain⟨y,z,r,hTT⟩:=two_of hn
       have hdd:=uh HD1
       rw[hTT] at hdd ⊢
       rw[hTT] at hTl
       simp only[List.length_cons] at hTl
       rw[Sp.weff_two hv hnl htw]
       exact dtwo x htw z y D E r _ w1 hdd (by omega)
      clear hv hnl htw
      go_wp2_with fail
      refine(uh HPU).mono ?_
      rintro e' w2 hp2
      obtain⟨rfl,hway⟩:=uh HWD w2 e' hp2
      rcases hway with ⟨T2,hI2⟩ | ⟨hd2,hO2⟩
      ·have k2:w2.cell? ⟨D,11,none⟩=some (.bool false):=by obtain⟨q,hq⟩:=hI2.dog;exact hq.fa
       have HI2:=hde hI2
       clear hI2 hp2
       go_wp2
       go_roundw
       case rel=>exact⟨i+1,f',T2,by go_num,by omega,HI2⟩
       case measure=>simp[intOf];omega
      ·have k2:w2.cell? ⟨D,11,none⟩=some (.bool true):=by obtain⟨T2,f2,q,hq⟩:=hd2;exact hq.fa
       clear hd2 hp2
       go_wp2
       exact bodyPost_ret (results_none rfl _ _ _) rfl hO2
     ·obtain rfl:none=nv:=hv.symm.trans (uh HV)
      obtain rfl:=hno (uh HTB) hntw
      obtain rfl:=hno (uh HLB) (fun h=>hnl (Or.inl h))
      have gw:(x.toList == [119,101,105,103,104,116])=false:=toList_ne (fun h=>hnl (Or.inr h))
      have HPU:Hid (Calls Tryz.prog 244 #[.pointer (some ⟨D,0,none⟩),.string x] w1 (DPost (Sp.weff E x.data.toList T') D E (f':Int) w1)):=
       dturn x T' n htu hn D E _ w1 (uh HD1) (by omega)
      clear hv hnl hntw htu
      go_wp2_with fail
      refine(uh HPU).mono ?_
      rintro e' w2 hp2
      obtain⟨rfl,hway⟩:=uh HWD w2 e' hp2
      rcases hway with ⟨T2,hI2⟩ | ⟨hd2,hO2⟩
      ·have k2:w2.cell? ⟨D,11,none⟩=some (.bool false):=by obtain⟨q,hq⟩:=hI2.dog;exact hq.fa
       have HI2:=hde hI2
       clear hI2 hp2
       go_wp2
       go_roundw
       case rel=>exact⟨i+1,f',T2,by go_num,by omega,HI2⟩
       case measure=>simp[intOf];omega
      ·have k2:w2.cell? ⟨D,11,none⟩=some (.bool true):=by obtain⟨T2,f2,q,hq⟩:=hd2;exact hq.fa
       clear hd2 hp2
       go_wp2
       exact bodyPost_ret (results_none rfl _ _ _) rfl hO2
  ·obtain rfl:i=b:=by omega
   have hltz:¬ (i:Int) < (i:Int):=by omega
   have HF:Hid (O (.returned (.tuple #[])) wr):=by
    show O _ _
    have hI:=uh HI
    rw[← uh hO]
    exact⟨rfl,hbw,Or.inl ⟨f',T',hI.fu,hI.inv,hI.dog⟩⟩
   clear hd'
   go_wp2
   exact bodyPost_end (results_none rfl _ _ _) rfl (uh HF)
def envV (E:Sp.Ev):Value := .agg #[.int .i64 E.value,.int .i64 E.old,.int .i64 E.inn,.int .i64 E.got,.int .i64 E.step,.int .i64 E.id,.int .i64 E.deg,.int .i64 E.all,.int .i64 E.weight]
def dogV (E:Sp.Ev):Array Value := #[.int .i64 E.value,.int .i64 E.old,.int .i64 E.inn,.int .i64 E.got,.int .i64 E.step,.int .i64 E.id,.int .i64 E.deg,.int .i64 E.all,.int .i64 E.weight,.slice none 0 0,.int .i64 200,.bool false]
theorem Dog.of_new {w:World} {D t:Nat} {E:Sp.Ev} (h:w.heap[D]? = some (.cells (dogV E) t)):DogS w D E [] ((200:Nat):Int) false :=
 ⟨.slice none 0 0,by simp[World.cell?,h,dogV],by simp[World.cell?,h,dogV],by simp[World.cell?,h,dogV],by simp[World.cell?,h,dogV],by simp[World.cell?,h,dogV],by simp[World.cell?,h,dogV],by simp[World.cell?,h,dogV],by simp[World.cell?,h,dogV],by simp[World.cell?,h,dogV],by simp[World.cell?,h,dogV],by simp[World.cell?,h,dogV],by simp[World.cell?,h,dogV],fun j=>by simp[World.frozen?,h],World.ownsRow_nil _ _ _ _⟩
def EPost (o:Option Int) (w:World) (e:Ending) (w':World):Prop:=Below w.heap.size w w'∧e = .returned (.tuple #[.int .i64 (o.getD 0),.bool o.isSome])
theorem eval_any (X:List ByteArray) (E:Sp.Ev) (p:Option Addr) (cap:Nat) (w:World) (hX:Coded X) (hL:Sp.Good (lst X)) (hE:Sp.EvOk E) (hs:SAt w p X) :
  Calls Tryz.prog 111 #[.slice p X.length cap,envV E] w (EPost (Sp.ev (lst X) E) w):=by
 have hlen:=hX.len
 have hws:WsIn w (w.heap.size+1) p X:=fun j hj=>by
  obtain⟨g,off,a,b,c⟩:=hs j hj
  exact⟨g,off,a,by omega,c⟩
 have HP:Hid (∀ W,W.heap.size=w.heap.size+2→Below w.heap.size w W→W.heap[w.heap.size+1]? = some (.cells (dogV E) 307)→Calls Tryz.prog 160 #[.pointer (some ⟨w.heap.size+1,0,none⟩),.slice p X.length cap,.int .i64 0,.int .i64 X.length] W (PartPost (lst X) E (w.heap.size+1) ⟨0,200,[],[]⟩ X.length [] 200 W)):=by
  show ∀ W,_
  intro W hW hb hD
  have hw2:WsIn W (w.heap.size+1) p X:=fun j hj=>by
   obtain⟨g,off,a,b,c⟩:=hs j hj
   exact⟨g,off,a,by omega,(hb.cell (p:=⟨g,off+j,none⟩) b).trans c⟩
  have:=part_law hX hL hE 201 (w.heap.size+1) p cap 0 X.length 200 [] [] ⟨0,200,[],[]⟩ W (by omega) (by have:=Sp.seg_all hL.fm;rw[lst_len] at this;exact this) hw2 (Dog.of_new hD) Sp.sinv0 (by simp)
  exact this
 have HG:=hde (And.intro hL hE)
 clear hX hL hE hws hs
 obtain⟨o,HO⟩:∃ o,Hid (Sp.ev (lst X) E=o):=⟨_,rfl⟩
 rw[uh HO]
 unfold envV
 go_enter Tryz.func111,Tryz.ntmps111
 go_wp2_with fail
 refine(uh HP _ (by simp) (((Below.refl _ _).alloc nlr _).alloc (by simp) _) ?_).mono ?_
 ·have h:=heap_alloc_new (w.alloc (.cells #[.int .i64 E.value,.int .i64 E.old,.int .i64 E.inn,.int .i64 E.got,.int .i64 E.step,.int .i64 E.id,.int .i64 E.deg,.int .i64 E.all,.int .i64 E.weight] 231)) (.cells (dogV E) 307)
  rw[World.size_alloc] at h
  exact h
 rintro e w2 ⟨rfl,hb2,⟨f2,T2,hff,hs2,hd2⟩ | ⟨hn,T2,f2,hd2⟩⟩
 ·have hbw:Below w.heap.size w w2:=(((Below.refl _ _).alloc nlr _).alloc (by simp) _).trans (hb2.mono (by omega))
  have h1:=Sp.hinv_end (uh HG).1.one hs2.hi (by rw[lst_len];exact Nat.le_refl _)
  simp only at h1
  obtain⟨v,rfl⟩:=List.length_eq_one_iff.1 h1
  have ho:o=some v:=by
   rw[← uh HO]
   have hr:=hs2.run
   rw[show X.length=(lst X).length from (lst_len X).symm] at hr
   rw[Sp.ev_of hr];rfl
  subst ho
  obtain⟨x,hx⟩:=hd2
  have k1:=hx.fa
  have k2:=hx.st
  obtain⟨g,cp,rfl,hg,hcap,hc,hr⟩:=hx.slice
  clear hx hr hs2 hb2
  simp only[List.length_nil] at hc k2
  go_wp2
  exact bodyPost_ret (v := .tuple #[.int .i64 v,.bool true]) (by simp[results,Tryz.results111,go_sem]) rfl ⟨hbw,rfl⟩
 ·have hbw:Below w.heap.size w w2:=(((Below.refl _ _).alloc nlr _).alloc (by simp) _).trans (hb2.mono (by omega))
  have ho:o=none:=by rw[← uh HO];exact Sp.ev_none hn
  subst ho
  obtain⟨x,hx⟩:=hd2
  have k1:=hx.fa
  clear hx hb2
  go_wp2
  exact bodyPost_ret (v := .tuple #[.int .i64 0,.bool false]) (by simp[results,Tryz.results111,go_sem]) rfl ⟨hbw,rfl⟩
def BoolsAt (w:World) (p:Option Addr) (V:List Bool):Prop := ∀ j (h:j < V.length),∃ g,p=some ⟨g,0,none⟩∧g < w.heap.size∧w.cell? ⟨g,j,none⟩=some (.bool V[j])
theorem BoolsAt.below {w w':World} {p:Option Addr} {V:List Bool} (h:BoolsAt w p V) (hb:Below w.heap.size w w'):BoolsAt w' p V:=fun j hj=>by
 obtain⟨g,a,b,c⟩:=h j hj
 have:=hb.size
 exact⟨g,a,by omega,(hb.cell (p:=⟨g,j,none⟩) b).trans c⟩
structure CV where
 pv:Option Addr
 kv:Nat
 pr:Option Addr
 kr:Nat
 pg:Option Addr
 kg:Nat
 pi:Option Addr
 ki:Nat
def cfgA (n:Nat) (v:CV) (all:Int):Array Value := #[.slice v.pv n v.kv,.slice v.pr n v.kr,.slice v.pg n v.kg,.slice v.pi n v.ki,.int .i64 all]
structure CfgR (w:World) (n:Nat) (v:CV) (c:Sp.Cfg):Prop where
 rv:IntsAt w .i64 v.pv c.val
 rr:BoolsAt w v.pr c.rst
 rg:IntsAt w .i64 v.pg c.got
 ri:IntsAt w .i64 v.pi c.inn
 ok:Sp.CfgOk n c
theorem CfgR.below {w w':World} {n:Nat} {v:CV} {c:Sp.Cfg} (h:CfgR w n v c) (hb:Below w.heap.size w w'):CfgR w' n v c :=
 ⟨h.rv.below hb,h.rr.below hb,h.rg.below hb,h.ri.below hb,h.ok⟩
theorem getD_int {l:List Int} {i:Nat} (h:i < l.length):l.getD i 0=l[i]:=by rw[List.getD_eq_getElem?_getD,List.getElem?_eq_getElem h];rfl
theorem getD_bool {l:List Bool} {i:Nat} (h:i < l.length):l.getD i false=l[i]:=by rw[List.getD_eq_getElem?_getD,List.getElem?_eq_getElem h];rfl
theorem CfgR.at {w:World} {n:Nat} {v:CV} {c:Sp.Cfg} (h:CfgR w n v c) {i:Nat} (hi:i < n):∃ gv gr gg gi,v.pv=some ⟨gv,0,none⟩∧v.pr=some ⟨gr,0,none⟩∧v.pg=some ⟨gg,0,none⟩∧v.pi=some ⟨gi,0,none⟩∧gv < w.heap.size∧gr < w.heap.size∧gg < w.heap.size∧gi < w.heap.size ∧
  w.cell? ⟨gv,i,none⟩=some (.int .i64 (c.val.getD i 0))∧w.cell? ⟨gr,i,none⟩=some (.bool (c.rst.getD i false))∧w.cell? ⟨gg,i,none⟩=some (.int .i64 (c.got.getD i 0))∧w.cell? ⟨gi,i,none⟩=some (.int .i64 (c.inn.getD i 0)):=by
 obtain⟨gv,a1,a2,a3⟩:=h.rv i (by rw[h.ok.lv];exact hi)
 obtain⟨gr,b1,b2,b3⟩:=h.rr i (by rw[h.ok.lr];exact hi)
 obtain⟨gg,c1,c2,c3⟩:=h.rg i (by rw[h.ok.lg];exact hi)
 obtain⟨gi,d1,d2,d3⟩:=h.ri i (by rw[h.ok.li];exact hi)
 refine⟨gv,gr,gg,gi,a1,b1,c1,d1,a2,b2,c2,d2,?_,?_,?_,?_⟩
 ·rw[getD_int (by rw[h.ok.lv];exact hi)];exact a3
 ·rw[getD_bool (by rw[h.ok.lr];exact hi)];exact b3
 ·rw[getD_int (by rw[h.ok.lg];exact hi)];exact c3
 ·rw[getD_int (by rw[h.ok.li];exact hi)];exact d3
structure JV where
 n:Nat
 pn:Option Addr
 kn:Nat
 pv:Option Addr
 kv:Nat
 pe:Option Addr
 ne:Nat
 ke:Nat
 p0:Option Addr
 l0:Nat
 k0:Nat
 p1:Option Addr
 l1:Nat
 k1:Nat
 p2:Option Addr
 l2:Nat
 k2:Nat
 p3:Option Addr
 l3:Nat
 k3:Nat
 p4:Option Addr
 l4:Nat
 k4:Nat
 bby:ByteArray
 bal:ByteArray
 cap:Nat
def jobA (j:JV):Array Value := #[.slice j.pn j.n j.kn,.slice j.pv j.n j.kv,.slice j.pe j.ne j.ke,.slice j.p0 j.l0 j.k0,.slice j.p1 j.l1 j.k1,.slice j.p2 j.l2 j.k2,.slice j.p3 j.l3 j.k3,.slice j.p4 j.l4 j.k4,.string j.bby,.string j.bal,.int .i64 j.cap]
def CodeR (w:World) (p:Option Addr) (l:Nat) (L:List (List UInt8)):Prop := ∃ X,lst X=L∧X.length=l∧SAt w p X∧Coded X
theorem CodeR.below {w w':World} {p:Option Addr} {l:Nat} {L:List (List UInt8)} (h:CodeR w p l L) (hb:Below w.heap.size w w'):CodeR w' p l L:=by
 obtain⟨X,h1,h2,h3,h4⟩:=h
 exact⟨X,h1,h2,h3.below hb,h4⟩
theorem CodeR.eval {w W:World} {p:Option Addr} {l k:Nat} {L:List (List UInt8)} (h:CodeR w p l L) (hb:Below w.heap.size w W) (hL:Sp.Good L) {E:Sp.Ev} (hE:Sp.EvOk E):Calls Tryz.prog 111 #[.slice p l k,envV E] W (EPost (Sp.ev L E) W):=by
 obtain⟨X,rfl,rfl,h3,h4⟩:=h.below hb
 exact eval_any X E p k W h4 hL hE h3
structure JobR (w:World) (j:JV) (P:Sp.Pg) (vs:List Int) (Es:List Sp.Ed):Prop where
 n:j.n=vs.length
 v:IntsAt w .i64 j.pv vs
 ne:j.ne=Es.length
 e:EdgesAt w j.pe Es
 c0:CodeR w j.p0 j.l0 (P.code 0)
 c1:CodeR w j.p1 j.l1 (P.code 1)
 c2:CodeR w j.p2 j.l2 (P.code 2)
 c3:CodeR w j.p3 j.l3 (P.code 3)
 c4:CodeR w j.p4 j.l4 (P.code 4)
 by':j.bby.data.toList=P.by'
 al:j.bal.data.toList=P.al
 cap:j.cap≤200
 ok:Sp.JobOk P Es vs.length
 vok:∀ x ∈ vs,Sp.i64 x
theorem JobR.below {w w':World} {j:JV} {P:Sp.Pg} {vs:List Int} {Es:List Sp.Ed} (h:JobR w j P vs Es) (hb:Below w.heap.size w w'):JobR w' j P vs Es :=
 ⟨h.n,h.v.below hb,h.ne,h.e.below hb,h.c0.below hb,h.c1.below hb,h.c2.below hb,h.c3.below hb,h.c4.below hb,h.by',h.al,h.cap,h.ok,h.vok⟩
theorem fn_form {w:World} {M:Nat} {x:List UInt8} {fv:Value} (h:Fn w M x fv):∃ F caps,fv = .func (.func F) #[] caps:=by
 rcases h with ⟨B,n,_,e,_⟩ | ⟨k,_,_,e⟩
 ·exact⟨_,_,e⟩
 ·exact⟨_,_,e⟩
theorem code_of {w:World} {g:Nat} {L:List (List UInt8)} (h:CodeAt w g L) (hg:Sp.Good L):CodeW w g L:=by
 refine⟨hg,h.mate,h.lt,fun i hi=>?_⟩
 obtain⟨fv,h1,h2⟩:=h.fn i hi
 obtain⟨F,caps,rfl⟩:=fn_form h2
 exact⟨F,caps,h1,h2⟩
theorem prg_of {s:ByteArray} {w:World} {P:Nat} {C:Array Value} {t:TypeId} (h0:(Sp.comp s).1=0) (hb:w.heap[P]? = some (.cells C t (0,0))) (hl:LnsIn (Sp.split s 10) w P C 7):PrgAt w P (Sp.pgOf s):=by
 have hcell:∀ j,w.cell? ⟨P,j,none⟩=C[j]?:=fun j=>cell_of_row w P j C t (0,0) hb
 have hcomb:∀ j,5≤j→j < 7→CombAt w P (j * 4+1) ((Sp.codeOf s j).headD []):=by
  intro j h5 h7
  obtain⟨k,hk,e1,e2,e3⟩:=hl.comb j h7 h5
  obtain⟨p,n,cap,b,z,q,F,hL⟩:=hl.shape j h7
  have e4:(Sp.codeOf s j).headD []=Sp.combsL[k]!:=by
   have:Sp.codeOf s j=[Sp.combsL[k]!]:=e3
   rw[this];rfl
  refine⟨b,cmF[k]!,(hcell _).trans hL.c1,?_,?_,?_⟩
  ·rw[e4,← none_of k hk];exact(hcell _).trans e1
  ·exact(hcell _).trans e2
  ·rw[e4];exact join_of k hk
 refine⟨(Array.getElem?_eq_some_iff.1 hb).1,fun i hi=>?_,hcomb 5 (by omega) (by omega),hcomb 6 (by omega) (by omega)⟩
 obtain⟨g,cap,e1,e2,e3⟩:=hl.code i (by omega) hi
 exact⟨g,cap,(hcell _).trans e1,code_of e3 (Sp.code_good h0 hi)⟩
open Go.RowKit Go.Shelf
attribute [local go_sem] Oper.semAt_some
theorem all_in (F:Fence) (n:Nat) (h5:F.fn 116) (hro:F.round=none) (p0:Option Addr) (w:World) :
  CallsIn F n Tryz.prog 116 #[.pointer p0] w fun e w'=>e = .returned (.func (.func 169) #[] #[.pointer (some ⟨w.heap.size,0,none⟩)])∧w'=w.alloc (.cells #[.pointer p0] 160):=by
 refine callsIn_of_wp Tryz.func116 rfl h5 ?_ hro
 simp only[Tryz.ntmps116,List.size_toArray,List.length_cons,List.length_nil,Nat.reduceAdd,Nat.reduceSub,Array.replicate_succ,Array.replicate_zero,List.push_toArray,List.append_toArray,List.nil_append,List.cons_append]
 gi_wp2
 go_ret
 exact⟨rfl,rfl⟩
theorem all1_in (F:Fence) (n:Nat) (h8:F.fn 169) (hro:F.round=none) (hn:1≤n) (l Bs t n₀ : Nat) (p:Option Addr) (cap:Nat) (T:Sp.Tb) (hl:T.length≤100000) (J Jx:List (Int × Int)→World→Prop)
  (hY:∀ pre x W,J pre W→pre.length < T.length→YieldAt F (n - 1) Tryz.prog l #[.int .i32 x.1,.int .i64 x.2] W fun e W' =>
    (e = .returned (.bool true)∧J (pre++[x]) W'∧Below n₀ W W')∨(e = .returned (.bool false)∧Jx (pre++[x]) W'))
  (W:World) (hn₀ : n₀≤W.heap.size) (hJa:AbidesFrom W.heap.size J) (hBs:W.cell? ⟨Bs,0,none⟩=some (.pointer (some ⟨t,0,none⟩))) (ht:W.cell? ⟨t,0,none⟩=some (.slice p T.length cap))
  (hc:∀ j (hj:j < T.length),∃ g,p=some ⟨g,0,none⟩∧g < n₀∧W.cell? ⟨g,j * 2,none⟩=some (.int .i32 T[j].1)∧W.cell? ⟨g,j * 2+1,none⟩=some (.int .i64 T[j].2)) (h0:J [] W) :
  CallsIn F n Tryz.prog 169 #[.func (.yield l) #[] #[],.pointer (some ⟨Bs,0,none⟩)] W fun e W'=>(∃ v,e = .returned v) ∧
   ((∃ ys,ys=T∧J ys W')∨(∃ pre,pre <+: T∧Jx pre W')):=by
 refine callsIn_of_wp Tryz.func169 rfl h8 ?_ hro
 simp only[Tryz.ntmps169,List.size_toArray,List.length_cons,List.length_nil,Nat.reduceAdd,Nat.reduceSub,Array.replicate_succ,Array.replicate_zero,List.push_toArray,List.append_toArray,List.nil_append,List.cons_append]
 gi_wp2
 gi_loopw [10] (fun i wr=>∃ k:Nat,k≤T.length∧i = .int .i64 k∧Hid (J (T.take k) wr)∧Below n₀ W wr)
  (fun i _=>T.length - (intOf i).toNat)
 case atStart=>exact⟨0,Nat.zero_le _,rfl,h0,Below.refl _ _⟩
 case round =>
  obtain⟨k,hk,rfl,HJ,hnx⟩:=hrel
  by_cases hlt:k < T.length
  ·obtain⟨g,rfl,hg,c0,c1⟩:=hc k hlt
   have d0:=(hnx.cell (p:=⟨g,k * 2,none⟩) hg).trans c0
   have d1:=(hnx.cell (p:=⟨g,k * 2+1,none⟩) hg).trans c1
   have hltz:(k:Int) < (T.length:Int):=by omega
   obtain⟨x,hx⟩:∃ x,T[k]=x:=⟨_,rfl⟩
   rw[hx] at d0 d1
   have HX:=hde hx
   clear hx c0 c1
   have hJ1:J (T.take k) (wr.alloc (.cells #[.int .i32 x.1,.int .i64 x.2] 313)):=hJa _ _ _ none (uh HJ) (World.grownBy_alloc _ _ none) (fun r e=>by cases e)
   obtain⟨fn,tmps,assign,body,hy,hR⟩:=hY _ x _ hJ1 (by rw[List.length_take];omega)
   clear hJ1
   gi_wp2
   refine hR.mono ?_
   rintro e W3 (⟨rfl,hJ3,hk3⟩ | ⟨rfl,hJx3⟩)
   ·have HJ3:=hde hJ3
    clear hJ3
    gi_wp2
    go_roundw
    case rel=>exact⟨k+1,by omega,by go_num,by show J _ _;rw[List.take_succ_eq_append_getElem hlt,uh HX];exact uh HJ3,hnx.trans (((Below.refl _ _).alloc (Nat.le_trans hn₀ hnx.size) _).trans hk3)⟩
    case measure=>simp[intOf];omega
   ·have HJ3:=hde hJx3
    clear hJx3
    gi_wp2
    refine bodyPost_ret (results_none rfl _ _ _) rfl ?_
    exact⟨⟨_,rfl⟩,.inr ⟨_,⟨T.drop (k+1),by rw[← uh HX,← List.take_succ_eq_append_getElem hlt,List.take_append_drop]⟩,uh HJ3⟩⟩
  ·have hltz:¬ (k:Int) < (T.length:Int):=by omega
   obtain rfl:k=T.length:=by omega
   gi_wp2
   go_end0
   exact⟨⟨_,rfl⟩,.inl (by have h:=uh HJ;simpa using h)⟩
theorem all_stops (F:Fence) (n:Nat) (h8:F.fn 169) (hro:F.round=none) (hn:1≤n) (Bs t n₀ : Nat) (p:Option Addr) (cap:Nat) (T:Sp.Tb) (hl:T.length≤100000) (w:World) (hBs':Bs < w.heap.size) (hn₀ : n₀≤w.heap.size) (htn:t < w.heap.size)
  (hBs:w.cell? ⟨Bs,0,none⟩=some (.pointer (some ⟨t,0,none⟩))) (ht:w.cell? ⟨t,0,none⟩=some (.slice p T.length cap))
  (hc:∀ j (hj:j < T.length),∃ g,p=some ⟨g,0,none⟩∧g < n₀∧w.cell? ⟨g,j * 2,none⟩=some (.int .i32 T[j].1)∧w.cell? ⟨g,j * 2+1,none⟩=some (.int .i64 T[j].2)) :
  SeqStopsK F n Tryz.prog 169 #[.pointer (some ⟨Bs,0,none⟩)] (fun x:Int × Int=>#[Value.int .i32 x.1,Value.int .i64 x.2]) (Below n₀) (fun ys=>ys=T) (fun pre=>pre <+: T) T.length w:=fun l J Jx W hW hJ _ hY h0 =>
 all1_in F n h8 hro hn l Bs t n₀ p cap T hl J Jx hY W (Nat.le_trans hn₀ hW.size) hJ ((hW.cell (p:=⟨Bs,0,none⟩) hBs').trans hBs) ((hW.cell (p:=⟨t,0,none⟩) htn).trans ht)
  (fun j hj=>by obtain⟨g,e,hg,c0,c1⟩:=hc j hj;exact⟨g,e,hg,(hW.cell (p:=⟨g,j * 2,none⟩) (Nat.lt_of_lt_of_le hg hn₀)).trans c0,(hW.cell (p:=⟨g,j * 2+1,none⟩) (Nat.lt_of_lt_of_le hg hn₀)).trans c1⟩) h0
end Go.Proofs.YteflnddphpjahaaGreatDoor
