import Derived.Test.YteflnddphpjahaaGreatDoorCmShelf
import Derived.Test.YteflnddphpjahaaGreatDoorCmSameAtoLineD
import Derived.Test.YteflnddphpjahaaGreatDoorRows
import Derived.ProofKit
import Derived.PinnedBridge
import Derived.Lay
import Derived.LaidOnce
import Derived.LaidMore
import Derived.HandedShaped
import Derived.Lib.LaidU8T
import Derived.OpenShut
import Derived.ShutString
import Derived.Test.YteflnddphpjahaaGreatDoorCmPlAtoRefA
import Derived.Test.YteflnddphpjahaaGreatDoorCmRefBtoGMem
import Derived.Deep.DeepMust
import Derived.Deep.DeepCutAuto
import Derived.Outline
import Derived.Laws.CopyRow
import Derived.Laws.CopyOwn
import Derived.WalkKit
set_option linter.unusedVariables false
set_option linter.unusedSimpArgs false
set_option maxRecDepth 100000
set_option maxHeartbeats 16000000
namespace Go.Proofs.YteflnddphpjahaaGreatDoor
open Go.RowKit Go.Shelf Go.Lib
theorem handed {H:Type} {enc:TypeId × Value→H} {a:Assume} {C:Checked} {os:Os} {f:FuncId} {fn:Func} {s:ChangeSpec} {conds:List PathCond} {apart fresh handsOn again:Bool} {X:World→Array Value→Prop}
  (hX:∀ (w w':World) (args:Array Value),w.heap=w'.heap→X w args→X w' args)
  (own:ownKnob C.prog.godebug=none) (started:os.Started) (noInit:C.prog.inits.idxOf? f=none) (hfn:C.prog.funcs[f]? = some fn)
  (witness:∃ (w:World) (tape:Tape) (i:Input),w.os=os∧(w.forCall tape i).Shaped C.prog∧i.vars=[]∧Input.okWide C.prog (w.forCall tape i) .any w.heap.size f i ∧
    ((s.pre enc C.prog fn conds apart (w.forCall tape i).memory i.args∧X (w.forCall tape i).memory i.args)∧sizedMet enc C.prog fn (OpenSpec.ofChange s) apart (w.forCall tape i).memory i.args)∧a.holds C.prog (lone (Frame.enter C.prog f i.args .normal) [] (w.forCall tape i)))
  (contract:∀ (W:World) (base:Nat) (args:Array Value) (ds gs:List (DataW H)) (before:List MemPlace),
    (∀ (j:Nat) t v,fn.params[j]? = some t→args[j]? = some v→Value.okWide C.prog W .any base t v) →
    DataW.Whole enc C.prog fn.params.toList s.vars apart W args.toList ds gs before→W.ShapedOpen C.prog→X W args →
    Calls C.prog f args W fun e W'=>∃ v,e = .returned v∧s.post enc C.prog fn apart fresh handsOn again W args v W') :
  ReturnsInHanded a C os f .any (fun w args=>(s.pre enc C.prog fn conds apart w args∧X w args)∧sizedMet enc C.prog fn (OpenSpec.ofChange s) apart w args) (s.post enc C.prog fn apart fresh handsOn again):=by
 refine returnsInHanded_of_calls own started noInit witness ?_
 intro w tape i _ hsh _ hok hpre _
 obtain⟨_,_,_,fn',hfn',_,_,_,_,hval⟩:=hok
 obtain rfl:fn'=fn:=Option.some.inj (hfn'.symm.trans hfn)
 obtain⟨⟨⟨ds,gs,before,hw,_⟩,hx⟩,_⟩:=hpre
 refine(contract (w.forCall tape i) w.heap.size i.args ds gs before hval (DataW.Whole.of_heap (w':=w.forCall tape i) (by rfl) hw) hsh (hX _ _ _ (by rfl) hx)).mono fun e W' ⟨v,he,hp⟩=>?_
 subst he
 exact ChangeSpec.post_blind hp
theorem own:ownKnob Tryz.prog.godebug=none:=by kernel_rfl
theorem u8x:U8Extra Tryz.prog Tryz.lays260_ren:=⟨by kernel_rfl,by kernel_rfl,by kernel_rfl,by kernel_rfl,by kernel_rfl,by kernel_rfl,by kernel_rfl⟩
theorem accept_eq:(Rows.laid_unicode_utf8_acceptRanges:DataW Unit)=acceptData:=by kernel_rfl
theorem first_eq:Rows.laid_unicode_utf8_first=firstData:=Pinned.utf8First_eq
theorem tabs_of {w : World} (h1 : VarReads Tryz.prog w "unicode/utf8.first" Rows.laid_unicode_utf8_first) (h2 : VarReads Tryz.prog w "unicode/utf8.acceptRanges" Rows.laid_unicode_utf8_acceptRanges) : Lib.Utf8Tabs 3 4 w :=
 utf8Tabs_of_readsT (U8Types.of260 Tryz.lays260) u8x (first_eq ▸ h1) (accept_eq ▸ h2)
theorem split_of {w:World} (h:w.ShapedOpen Tryz.prog):SplitOk w:=Tryz.laysM143.s1_3 w h
end Go.Proofs.YteflnddphpjahaaGreatDoor
namespace Go.Proofs.YteflnddphpjahaaGreatDoor.Sp
open Go
def hit (S t:List UInt8) (i:Nat):Prop:=(S.drop i).take t.length=t
def inB (S w:List UInt8):Prop:=w≠[]∧∃ i,i+(w.length+2)≤S.length∧hit S (32 :: (w++[32])) i
def bl:List (List UInt8)→List UInt8
 | []=>[32]
 | x :: r=>32 :: (x++bl r)
theorem bl_head (l:List (List UInt8)):∃ r,bl l=32 :: r:=by
 cases l with
 | nil=>exact⟨[],rfl⟩
 | cons x r=>exact⟨_,rfl⟩
theorem pre_iff {S t:List UInt8} {i:Nat}:hit S t i↔t <+: S.drop i:=by
 unfold hit
 constructor
 ·intro h
  refine⟨(S.drop i).drop t.length,?_⟩
  conv=>lhs;lhs;rw[← h]
  exact List.take_append_drop _ _
 ·rintro⟨r,h⟩;rw[← h];simp
theorem cut_eq:∀ (a b x y:List UInt8),(32:UInt8) ∉ a→(32:UInt8) ∉ b→a++32 :: x=b++32 :: y→a=b∧x=y:=by
 intro a
 induction a with
 | nil =>
  intro b x y _ hb h
  cases b with
  | nil=>simp at h;exact⟨rfl,h⟩
  | cons c t=>simp at h;exact absurd (by rw[h.1];exact List.mem_cons_self ..) hb
 | cons c t ih =>
  intro b x y ha hb h
  cases b with
  | nil=>simp at h;exact absurd (by rw[h.1];exact List.mem_cons_self ..) ha
  | cons d u =>
   simp only[List.cons_append,List.cons.injEq] at h
   obtain⟨h1,h2⟩:=ih u x y (fun hm=>ha (List.mem_cons_of_mem _ hm)) (fun hm=>hb (List.mem_cons_of_mem _ hm)) h.2
   exact⟨by rw[h.1,h1],h2⟩
theorem word_at_head {w:List UInt8} (hw:(32:UInt8) ∉ w) {l:List (List UInt8)} (hl:∀ x ∈ l,(32:UInt8) ∉ x) (h:32 :: (w++[32]) <+: bl l):∃ x r,l=x :: r∧x=w:=by
 obtain⟨q,hq⟩:=h
 cases l with
 | nil=>simp[bl] at hq
 | cons x r =>
  obtain⟨z,hz⟩:=bl_head r
  simp only[bl,hz,List.cons_append,List.cons.injEq,true_and,List.append_assoc,List.nil_append] at hq
  obtain⟨e,_⟩:=cut_eq w x q z hw (hl x (List.mem_cons_self ..)) hq
  exact⟨x,r,rfl,e.symm⟩
theorem hits_bl {w:List UInt8} (hw:(32:UInt8) ∉ w):∀ (l:List (List UInt8)),(∀ x ∈ l,(32:UInt8) ∉ x)→∀ i,(32 :: (w++[32])) <+: (bl l).drop i→w ∈ l:=by
 intro l
 induction l with
 | nil =>
  intro _ i h
  cases i with
  | zero=>obtain⟨x,r,e,_⟩:=word_at_head hw (l:=[]) (fun x hx=>by simp at hx) (by simpa using h);cases e
  | succ i=>obtain⟨q,hq⟩:=h;simp[bl] at hq
 | cons x r ih =>
  intro hl i h
  by_cases h0:i=0
  ·subst h0
   obtain⟨y,s,e,e2⟩:=word_at_head hw hl (by simpa using h)
   injection e with e3 e4
   rw[← e2,← e3];exact List.mem_cons_self ..
  ·obtain⟨k,rfl⟩:∃ k,i=k+1:=⟨i - 1,by omega⟩
   simp only[bl,List.drop_succ_cons] at h
   by_cases hk:k < x.length
   ·
    rw[List.drop_append_of_le_length (by omega),List.drop_eq_getElem_cons hk] at h
    obtain⟨q,hq⟩:=h
    simp only[List.cons_append,List.cons.injEq] at hq
    exact absurd (by rw[hq.1];exact List.getElem_mem hk) (hl x (List.mem_cons_self ..))
   ·rw[List.drop_append,List.drop_of_length_le (by omega),List.nil_append] at h
    exact List.mem_cons_of_mem _ (ih (fun y hy=>hl y (List.mem_cons_of_mem _ hy)) _ h)
theorem bl_hits {w:List UInt8}:∀ (l:List (List UInt8)),w ∈ l→∃ i,(32 :: (w++[32])) <+: (bl l).drop i:=by
 intro l
 induction l with
 | nil=>intro h;simp at h
 | cons x r ih =>
  intro h
  simp only[List.mem_cons] at h
  rcases h with rfl | h
  ·obtain⟨z,hz⟩:=bl_head r
   exact⟨0,by simp only[bl,hz,List.drop_zero];exact⟨z,by simp⟩⟩
  ·obtain⟨i,hi⟩:=ih h
   refine⟨(32 :: x).length+i,?_⟩
   have e:bl (x :: r)=(32 :: x)++bl r:=by simp[bl]
   rw[e,List.drop_append,List.drop_of_length_le (by omega),List.nil_append,show (32 :: x).length+i - (32 :: x).length=i by omega]
   exact hi
theorem inB_bl {S w:List UInt8} {l:List (List UInt8)} (hS:S=bl l) (hl:∀ x ∈ l,(32:UInt8) ∉ x) (hw:(32:UInt8) ∉ w):inB S w↔w≠[]∧w ∈ l:=by
 subst hS
 unfold inB
 constructor
 ·rintro⟨h1,i,_,h3⟩
  exact⟨h1,hits_bl hw l hl i (pre_iff.1 h3)⟩
 ·rintro⟨h1,h2⟩
  obtain⟨i,hi⟩:=bl_hits l h2
  refine⟨h1,i,?_,pre_iff.2 hi⟩
  have:=hi.length_le
  simp only[List.length_cons,List.length_append,List.length_nil,List.length_drop] at this
  omega
end Go.Proofs.YteflnddphpjahaaGreatDoor.Sp
namespace Go.Proofs.YteflnddphpjahaaGreatDoor
open Go.RowKit
theorem toL (b:ByteArray):b.toList=b.data.toList:=by simp[ByteArray.toList_eq]
open Classical in
theorem in_any (S x:ByteArray) (w:World) (hS:S.size≤1000) (hx:x.size≤4000):Calls Tryz.prog 108 #[.string S,.string x] w fun e w'=>e = .returned (.bool (decide (Sp.inB S.data.toList x.data.toList)))∧w'=w:=by
 obtain⟨t,ht⟩:∃ t,(⟨#[32]⟩++x++⟨#[32]⟩:ByteArray)=t:=⟨_,rfl⟩
 have HTL:Hid (t.data.toList=32 :: (x.data.toList++[32])):=by
  show _=_
  rw[← ht,ByteArray.data_append,Array.toList_append,ByteArray.data_append,Array.toList_append]
  rfl
 have hts:t.size=x.size+2:=by rw[← ht,ByteArray.size_append,ByteArray.size_append];show 1+x.size+1=_;omega
 have HTS:=hde hts
 have htz:t.size≤4002:=by omega
 clear hts
 go_enter Tryz.func108,Tryz.ntmps108
 go_wp2
 clear ht
 go_loopw [6] (fun u wr=>∃ i:Nat,u = .int .i64 i∧i≤2000∧wr=w∧Hid (∀ k,k < i→k+(x.size+2)≤S.size→¬ Sp.hit S.data.toList (32 :: (x.data.toList++[32])) k)) (fun u _=>2001 - (intOf u).toNat)
 case atStart=>exact⟨0,rfl,by omega,rfl,fun k hk=>by omega⟩
 case round =>
  obtain⟨i,rfl,hi,hw,HN⟩:=hrel
  obtain rfl:=hw.symm
  clear hw
  obtain⟨k,HK⟩:∃ k,Hid (k=i+t.size):=⟨_,rfl⟩
  have hk:(i:Int)+(t.size:Int)=(k:Int):=by have:=uh HK;omega
  have hik:i≤k:=by have:=uh HK;omega
  have hikz:(i:Int)≤(k:Int):=by omega
  have hkz:k≤7000:=by have:=uh HK;omega
  by_cases hlt:k≤S.size
  ·have hltz:(k:Int)≤(S.size:Int):=by omega
   have HEX:Hid ((S.extract i k).data.toList=(S.data.toList.drop i).take t.size):=by
    show _=_
    rw[ByteArray.data_extract,Array.toList_extract,uh HK]
    simp
   by_cases hm:(S.extract i k).data.toList=t.data.toList
   ·have g1:((S.extract i k).toList == t.toList)=true:=by rw[beq_iff_eq,toL,toL];exact hm
    have HM:=hde hm
    clear hm
    go_wp2
    go_ret
    refine⟨?_,rfl⟩
    have hit:Sp.hit S.data.toList (32 :: (x.data.toList++[32])) i:=by
     have h1:=uh HM
     rw[uh HEX,uh HTL] at h1
     unfold Sp.hit
     have h2:(32 :: (x.data.toList++[32]):List UInt8).length=t.size:=by have:=uh HTS;simp;omega
     rw[h2];exact h1
    show Ending.returned (Value.bool _)=Ending.returned (Value.bool _)
    congr 2
    cases hxl:x.data.toList with
    | nil =>
     rw[decide_eq_false (fun hc=>hc.1 rfl)]
     rw[toL,hxl];rfl
    | cons a r =>
     rw[hxl] at hit
     rw[decide_eq_true]
     ·rw[toL,hxl];rfl
     ·refine⟨by simp,i,?_,hit⟩
      have h3:S.data.toList.length=S.size:=by simp
      have h4:x.data.toList.length=x.size:=by simp
      rw[hxl] at h4
      have:=uh HK
      have:=uh HTS
      omega
   ·have g1:((S.extract i k).toList == t.toList)=false:=by rw[beq_eq_false_iff_ne,toL,toL];exact hm
    have HM:=hde hm
    clear hm
    go_wp2
    go_roundw
    case rel =>
     refine⟨i+1,by go_num,by omega,by trivial,?_⟩
     intro j hj1 hj2 hj3
     by_cases hji:j=i
     ·subst hji
      apply uh HM
      rw[uh HEX,uh HTL]
      unfold Sp.hit at hj3
      have h2:(32 :: (x.data.toList++[32]):List UInt8).length=t.size:=by have:=uh HTS;simp;omega
      rw[h2] at hj3;exact hj3
     ·exact(uh HN) j (by omega) hj2 hj3
    case measure=>simp[intOf];omega
  ·have hltz:¬ (k:Int)≤(S.size:Int):=by omega
   go_wp2
   go_ret
   refine⟨?_,rfl⟩
   rw[decide_eq_false]
   rfl
   rintro⟨_,j,h1,h2⟩
   have h3:S.data.toList.length=S.size:=by simp
   have h4:x.data.toList.length=x.size:=by simp
   have:=uh HK
   have:=uh HTS
   exact(uh HN) j (by omega) (by omega) h2
end Go.Proofs.YteflnddphpjahaaGreatDoor
namespace Go.Proofs.YteflnddphpjahaaGreatDoor.Sp
open Go
def loadsL:List (List UInt8):=[[118,97,108,117,101],[111,108,100],[105,110],[103,111,116],[115,116,101,112],[105,100],[100,101,103],[97,108,108]]
def twosL:List (List UInt8):=[[43],[45],[42],[47],[37],[60],[61],[109,105,110],[109,97,120]]
def combsL:List (List UInt8):=[[109,105,110],[109,97,120],[115,117,109]]
def tk (wt:Bool) (x:List UInt8):Option (Nat × Nat):=
 if (number x).isSome=true∨x ∈ loadsL∨(wt=true∧x=[119,101,105,103,104,116]) then some (0,1)
 else if x ∈ twosL then some (2,1)
 else if x=[100,117,112] then some (1,2)
 else if x=[100,114,111,112] then some (1,0)
 else if x=[91] then some (1,0)
 else if x=[115,119,97,112] then some (2,2)
 else if x=[111,118,101,114] then some (2,3)
 else if x=[63] then some (3,1)
 else if x=[93] then some (0,0)
 else none
theorem in_loads {w:List UInt8} (hw:(32:UInt8) ∉ w):inB [32,118,97,108,117,101,32,111,108,100,32,105,110,32,103,111,116,32,115,116,101,112,32,105,100,32,100,101,103,32,97,108,108,32] w↔w ∈ loadsL:=by
 refine(inB_bl (l:=loadsL) (by decide) (by decide) hw).trans ?_
 exact⟨fun h=>h.2,fun h=>⟨fun e=>by subst e;revert h;decide,h⟩⟩
theorem in_twos {w:List UInt8} (hw:(32:UInt8) ∉ w):inB [32,43,32,45,32,42,32,47,32,37,32,60,32,61,32,109,105,110,32,109,97,120,32] w↔w ∈ twosL:=by
 refine(inB_bl (l:=twosL) (by decide) (by decide) hw).trans ?_
 exact⟨fun h=>h.2,fun h=>⟨fun e=>by subst e;revert h;decide,h⟩⟩
end Go.Proofs.YteflnddphpjahaaGreatDoor.Sp
namespace Go.Proofs.YteflnddphpjahaaGreatDoor
open Go.RowKit
namespace Sp
def ds (x:List UInt8):Int:=if x=[91] then 1 else if x=[93] then -1 else 0
def clo:List (List UInt8)→Nat→Int→Option Nat
 | [],_,_=>none
 | x :: r,k,d=>if d+ds x=0 then some k else clo r (k+1) (d+ds x)
def cloI:Option Nat→Int
 | some k=>(k:Int)
 | none=>-1
def fmd (wt:Bool):List (List UInt8)→Int→Bool
 | [],d=>decide (d=0)
 | x :: r,d=>if tk wt x=none∨d+ds x < 0 then false else fmd wt r (d+ds x)
theorem ds_bd (x:List UInt8) : -1≤ds x∧ds x≤1:=by unfold ds;split <;> (try split) <;> omega
theorem clo_end {L:List (List UInt8)} {k:Nat} (h:L.length≤k) (d:Int):clo (L.drop k) k d=none:=by rw[List.drop_of_length_le h];rfl
theorem clo_yes {L:List (List UInt8)} {k:Nat} (h:k < L.length) {d:Int} (hd:d+ds L[k]=0):clo (L.drop k) k d=some k:=by
 rw[List.drop_eq_getElem_cons h];simp only[clo,if_pos hd]
theorem clo_no {L:List (List UInt8)} {k:Nat} (h:k < L.length) {d:Int} (hd:¬ d+ds L[k]=0):clo (L.drop k) k d=clo (L.drop (k+1)) (k+1) (d+ds L[k]):=by
 rw[List.drop_eq_getElem_cons h];simp only[clo,if_neg hd]
end Sp
def SAt (w:World) (p:Option Addr) (X:List ByteArray):Prop := ∀ j (h:j < X.length),∃ g off,p=some ⟨g,off,none⟩∧g < w.heap.size∧w.cell? ⟨g,off+j,none⟩=some (.string X[j])
theorem SAt.below {w w':World} {p:Option Addr} {X:List ByteArray} (h:SAt w p X) (hb:Below w.heap.size w w'):SAt w' p X:=fun j hj=>by
 obtain⟨g,off,e,h1,h2⟩:=h j hj
 exact⟨g,off,e,Nat.lt_of_lt_of_le h1 hb.size,(hb.cell (p:=⟨g,off+j,none⟩) h1).trans h2⟩
def lst (X:List ByteArray):List (List UInt8):=X.map (·.data.toList)
theorem lst_len (X:List ByteArray):(lst X).length=X.length:=by simp[lst]
theorem lst_get {X:List ByteArray} {k:Nat} (h:k < X.length):(lst X)[k]'(by rw[lst_len];exact h)=X[k].data.toList:=by simp[lst]
theorem closes_any (p:Option Addr) (cap i:Nat) (X:List ByteArray) (w:World) (h:SAt w p X) (hl:X.length≤4000) (hi:i≤X.length):Calls Tryz.prog 159 #[.slice p X.length cap,.int .i64 i] w fun e w' =>
  e = .returned (.int .i64 (Sp.cloI (Sp.clo ((lst X).drop i) i 0)))∧w'=w:=by
 obtain⟨o,HO⟩:∃ o,Hid (Sp.clo ((lst X).drop i) i 0=o):=⟨_,rfl⟩
 rw[uh HO]
 go_enter Tryz.func159,Tryz.ntmps159
 go_wp2
 go_loopw [5,6] (fun a b wr=>∃ (d:Int) (k:Nat),a = .int .i64 d∧b = .int .i64 k∧k≤X.length∧-4000≤d+(k:Int)∧d≤(k:Int)∧-((k:Int))≤d∧wr=w∧Hid (Sp.clo ((lst X).drop k) k d=o)) (fun _ b _=>X.length - (intOf b).toNat)
 case atStart=>exact⟨0,i,rfl,rfl,hi,by omega,by omega,by omega,rfl,HO⟩
 case round =>
  obtain⟨d,k,rfl,rfl,hk,hd1,hd2,hd3,hw,HC⟩:=hrel
  obtain rfl:=hw.symm
  clear hw hd1
  by_cases hlt:k < X.length
  ·have hltz:(k:Int) < (X.length:Int):=by omega
   obtain⟨g,off,rfl,hg1,hg2⟩:=h k hlt
   obtain⟨x,hx⟩:∃ x,X[k]=x:=⟨_,rfl⟩
   rw[hx] at hg2
   have HX:Hid ((lst X)[k]'(by rw[lst_len];exact hlt)=x.data.toList):=by show _=_;rw[lst_get hlt,hx]
   clear hx
   have hkl:k < (lst X).length:=by rw[lst_len];exact hlt
   by_cases c1:x.data.toList=[91]
   ·have g1:(x.toList == [91])=true:=toList_is c1
    have HD:Hid (Sp.ds ((lst X)[k])=1):=by show _=_;rw[uh HX,c1];rfl
    clear c1
    by_cases c0:d+1=0
    ·have g0:((d+1) == 0)=true:=by rw[beq_iff_eq];exact c0
     have HE:Hid (o=some k):=by show _=_;rw[← uh HC,Sp.clo_yes hkl (by rw[uh HD];exact c0)]
     go_wp2
     go_ret
     exact⟨by rw[uh HE];rfl,rfl⟩
    ·have g0:((d+1) == 0)=false:=by rw[beq_eq_false_iff_ne];exact c0
     have HE:Hid (Sp.clo ((lst X).drop (k+1)) (k+1) (d+1)=o):=by show _=_;rw[← uh HC,Sp.clo_no hkl (by rw[uh HD];exact c0),uh HD]
     go_wp2
     go_roundw
     case rel=>exact⟨d+1,k+1,rfl,by go_num,by omega,by omega,by omega,by omega,by trivial,HE⟩
     case measure=>simp[intOf];omega
   ·have g1:(x.toList == [91])=false:=toList_ne c1
    by_cases c2:x.data.toList=[93]
    ·have g2:(x.toList == [93])=true:=toList_is c2
     have HD:Hid (Sp.ds ((lst X)[k]) = -1):=by show _=_;rw[uh HX,c2];rfl
     clear c1 c2
     by_cases c0:d - 1=0
     ·have g0:((d - 1) == 0)=true:=by rw[beq_iff_eq];exact c0
      have HE:Hid (o=some k):=by show _=_;rw[← uh HC,Sp.clo_yes hkl (by rw[uh HD];omega)]
      go_wp2
      go_ret
      exact⟨by rw[uh HE];rfl,rfl⟩
     ·have g0:((d - 1) == 0)=false:=by rw[beq_eq_false_iff_ne];exact c0
      have HE:Hid (Sp.clo ((lst X).drop (k+1)) (k+1) (d - 1)=o):=by show _=_;rw[← uh HC,Sp.clo_no hkl (by rw[uh HD];omega),uh HD];rfl
      go_wp2
      go_roundw
      case rel=>exact⟨d - 1,k+1,rfl,by go_num,by omega,by omega,by omega,by omega,by trivial,HE⟩
      case measure=>simp[intOf];omega
    ·have g2:(x.toList == [93])=false:=toList_ne c2
     have HD:Hid (Sp.ds ((lst X)[k])=0):=by show _=_;rw[uh HX];unfold Sp.ds;rw[if_neg c1,if_neg c2]
     clear c1 c2
     by_cases c0:d=0
     ·have g0:(d == 0)=true:=by rw[beq_iff_eq];exact c0
      have HE:Hid (o=some k):=by show _=_;rw[← uh HC,Sp.clo_yes hkl (by rw[uh HD];omega)]
      go_wp2
      go_ret
      exact⟨by rw[uh HE];rfl,rfl⟩
     ·have g0:(d == 0)=false:=by rw[beq_eq_false_iff_ne];exact c0
      have HE:Hid (Sp.clo ((lst X).drop (k+1)) (k+1) d=o):=by show _=_;rw[← uh HC,Sp.clo_no hkl (by rw[uh HD];omega),uh HD,Int.add_zero]
      go_wp2
      go_roundw
      case rel=>exact⟨d,k+1,rfl,by go_num,by omega,by omega,by omega,by omega,by trivial,HE⟩
      case measure=>simp[intOf];omega
  ·have hltz:¬ (k:Int) < (X.length:Int):=by omega
   have HE:Hid (o=none):=by show _=_;rw[← uh HC,Sp.clo_end (by rw[lst_len];omega)]
   go_wp2
   go_ret
   exact⟨by rw[uh HE];rfl,rfl⟩
def Wds (X:List ByteArray):Prop := ∀ x ∈ X,(32:UInt8) ∉ x.data.toList∧x.size≤4000
namespace Sp
def hgt (L:List (List UInt8)):Nat→Nat→Nat→Nat→Option Nat
 | 0,a,b,h=>some h
 | f+1,a,b,h =>
  if b≤a then some h else
  match tk true (L.getD a []) with
  | none=>none
  | some (n,m) =>
   if h < n∨16 < h - n+m then none
   else if L.getD a []=[91] then
    match clo (L.drop a) a 0 with
    | none=>none
    | some e=>if hgt L f (a+1) e (h - n+m)=some (h - n+m) then hgt L (f - (e - a)) (e+1) b (h - n+m) else none
   else hgt L f (a+1) b (h - n+m)
def hI:Option Nat→Int
 | some h=>(h:Int)
 | none=>-1
end Sp
structure Coded (X:List ByteArray):Prop where
 wds:Wds X
 len:X.length≤4000
 all:∀ k,k < X.length→∃ n m,Sp.tk true ((lst X).getD k [])=some (n,m)
 shut:∀ k,k < X.length→(lst X).getD k []=[91]→∃ e,Sp.clo ((lst X).drop k) k 0=some e∧k < e∧e < X.length
namespace Sp
def headsL:List (List UInt8):=[[110,101,119],[103,111],[109,115,103],[104,97,108,116],[103,105,118,101],[98,121],[97,108,108]]
def hd (i:Nat):List UInt8:=headsL.getD i []++[58]
end Sp
namespace Sp
theorem tk_weight {x:List UInt8} {n m:Nat} (h:tk false x=some (n,m)):tk true x=some (n,m):=by
 unfold tk at h ⊢
 by_cases c:(number x).isSome=true∨x ∈ loadsL∨(false=true∧x=[119,101,105,103,104,116])
 ·rw[if_pos c] at h
  have c':(number x).isSome=true∨x ∈ loadsL∨(true=true∧x=[119,101,105,103,104,116]):=by
   rcases c with c | c | c
   ·exact Or.inl c
   ·exact Or.inr (Or.inl c)
   ·cases c.1
  rw[if_pos c'];exact h
 ·rw[if_neg c] at h
  by_cases c2:x=[119,101,105,103,104,116]
  ·subst c2
   exfalso
   revert h
   rw[if_neg (by decide),if_neg (by decide),if_neg (by decide),if_neg (by decide),if_neg (by decide),if_neg (by decide),if_neg (by decide),if_neg (by decide)]
   intro h;cases h
  ·rw[if_neg (fun hc=>c (by rcases hc with hc | hc | hc;exact Or.inl hc;exact Or.inr (Or.inl hc);exact absurd hc.2 c2))]
   exact h
def ws (x:ByteArray):List ByteArray:=split x 32
theorem cut_size (s:ByteArray) (c:Nat):∀ y ∈ split s c,y.size≤s.size:=cuts_size s c (s.size+1)
def lineOk (i:Nat) (x:ByteArray):Bool :=
 decide (((ws x).headD ⟨#[]⟩).data.toList=hd i) && (if 5≤i then decide ((ws x).tail.length=1) && decide (((ws x).tail.headD ⟨#[]⟩).data.toList ∈ combsL) else fmd (i == 2) ((ws x).tail.map (·.data.toList)) 0 && !(ws x).tail.isEmpty)
def codeOf (s:ByteArray) (i:Nat):List (List UInt8):=(ws ((split s 10).getD i ⟨#[]⟩)).tail.map (·.data.toList)
def comp (s:ByteArray):Int × Int :=
 if 2000 < s.size then (1,0) else
 match first (fun i=>!lineOk i ((split s 10).getD i ⟨#[]⟩)) (min 7 (split s 10).length) with
 | some i=>(3,(i:Int))
 | none=>if 7 < (split s 10).length then (3,7) else if (split s 10).length < 7 then (3,((split s 10).length:Int)) else
  match first (fun i=>decide (hgt (codeOf s i) (codeOf s i).length 0 (codeOf s i).length 0≠some 1)) 5 with
  | some i=>(7,(i:Int))
  | none=>(0,0)
end Sp
end Go.Proofs.YteflnddphpjahaaGreatDoor
namespace Go.Proofs.YteflnddphpjahaaGreatDoor.Sp
open Go
abbrev Tb:=List (Int × Int)
def tlow (T:Tb) (a:Int):Nat:=(T.filter fun p=>decide (p.1 < a)).length
def thas (T:Tb) (a:Int):Bool:=T.any fun p=>p.1 == a
def tsorted (T:Tb):Prop:=T.Pairwise fun p q=>p.1 < q.1
def tins (T:Tb) (a v:Int):Tb:=T.take (tlow T a)++(a,v) :: T.drop (tlow T a)
theorem tlow_le (T:Tb) (a:Int):tlow T a≤T.length:=List.length_filter_le _ _
theorem tlow_split (A B:Tb) (a:Int) (hA:∀ p ∈ A,p.1 < a) (hB:∀ p ∈ B,a≤p.1):tlow (A++B) a=A.length:=by
 unfold tlow
 rw[List.filter_append,List.filter_eq_self.2 (fun p hp=>decide_eq_true (hA p hp)),List.filter_eq_nil_iff.2 (fun p hp=>by simp;exact hB p hp)]
 simp
theorem tlow_at {T:Tb} {i:Nat} {a:Int} (hi:i≤T.length) (h1:∀ j (h:j < T.length),j < i→(T[j]).1 < a) (h2:∀ j (h:j < T.length),i≤j→a≤(T[j]).1):tlow T a=i:=by
 have e:=List.take_append_drop i T
 rw[← e,tlow_split]
 ·simp;omega
 ·intro p hp
  obtain⟨j,hj,rfl⟩:=List.mem_iff_getElem.1 hp
  simp at hj ⊢
  exact h1 j (by omega) (by omega)
 ·intro p hp
  obtain⟨j,hj,rfl⟩:=List.mem_iff_getElem.1 hp
  simp at hj ⊢
  exact h2 (i+j) (by omega) (by omega)
theorem tsorted_lt {T:Tb} (h:tsorted T) {i j:Nat} (hij:i < j) (hj:j < T.length):(T[i]'(by omega)).1 < (T[j]).1:=List.pairwise_iff_getElem.1 h i j (by omega) hj hij
theorem tsorted_le {T:Tb} (h:tsorted T) {i j:Nat} (hij:i≤j) (hj:j < T.length):(T[i]'(by omega)).1≤(T[j]).1:=by
 rcases Nat.lt_or_eq_of_le hij with hl | rfl
 ·exact Int.le_of_lt (tsorted_lt h hl hj)
 ·exact Int.le_refl _
theorem tlow_sorted {T:Tb} (h:tsorted T) (a:Int):(∀ j (hj:j < T.length),j < tlow T a↔(T[j]).1 < a):=by
 induction T with
 | nil=>intro j hj;simp at hj
 | cons p t ih =>
  have ht:tsorted t:=(List.pairwise_cons.1 h).2
  have hp:=(List.pairwise_cons.1 h).1
  intro j hj
  by_cases hpa:p.1 < a
  ·have e:tlow (p :: t) a=tlow t a+1:=by unfold tlow;rw[List.filter_cons,if_pos (decide_eq_true hpa)];rfl
   rw[e]
   cases j with
   | zero=>simp[hpa]
   | succ j=>simpa using ih ht j (by simpa using hj)
  ·have e:tlow (p :: t) a=0:=by
    have:=tlow_split [] (p :: t) a (by simp) (by
     intro q hq
     rcases List.mem_cons.1 hq with rfl | hq
     ·omega
     ·have:=hp q hq;omega)
    simpa using this
   rw[e]
   constructor
   ·intro hh;omega
   ·intro hh
    exfalso
    cases j with
    | zero=>exact hpa hh
    | succ j=>have:=hp (t[j]'(by simpa using hj)) (List.getElem_mem _);simp at hh;omega
theorem thas_at {T:Tb} (h:tsorted T) (a:Int):thas T a=true↔∃ hj:tlow T a < T.length,(T[tlow T a]).1=a:=by
 constructor
 ·intro ht
  obtain⟨p,hp,he⟩:=List.any_eq_true.1 ht
  obtain⟨j,hj,rfl⟩:=List.mem_iff_getElem.1 hp
  have he:(T[j]).1=a:=by simpa using he
  have hjl:tlow T a=j:=tlow_at (by omega) (fun i hi hij=>by have:=tsorted_lt h hij hj;omega) (fun i hi hij=>by have:=tsorted_le h hij hi;omega)
  rw[hjl];exact⟨hj,he⟩
 ·rintro⟨hj,he⟩
  exact List.any_eq_true.2 ⟨T[tlow T a],List.getElem_mem _,by simpa using he⟩
theorem tins_sorted {T:Tb} (h:tsorted T) {a v:Int} (hn:thas T a=false):tsorted (tins T a v):=by
 have hl:=tlow_sorted h a
 unfold tins tsorted
 rw[List.pairwise_append]
 refine⟨h.sublist (List.take_sublist _ _),List.pairwise_cons.2 ⟨?_,h.sublist (List.drop_sublist _ _)⟩,?_⟩
 ·intro q hq
  obtain⟨j,hj,rfl⟩:=List.mem_iff_getElem.1 hq
  simp at hj ⊢
  have h1:=not_congr (hl (tlow T a+j) (by omega))
  have h2:¬ (T[tlow T a+j]).1=a:=by
   intro e
   have:thas T a=true:=List.any_eq_true.2 ⟨T[tlow T a+j],List.getElem_mem _,by simpa using e⟩
   rw[this] at hn;cases hn
  have h3:=h1.1 (by omega)
  omega
 ·intro p hp q hq
  obtain⟨i,hi,rfl⟩:=List.mem_iff_getElem.1 hp
  have hi':i < tlow T a∧i < T.length:=by rw[List.length_take] at hi;omega
  have h1:=(hl i hi'.2).1 hi'.1
  rcases List.mem_cons.1 hq with rfl | hq
  ·simpa using h1
  ·obtain⟨j,hj,rfl⟩:=List.mem_iff_getElem.1 hq
   simp at hj ⊢
   exact tsorted_lt h (by omega) (by omega)
theorem tins_len (T:Tb) (a v:Int):(tins T a v).length=T.length+1:=by
 have:=tlow_le T a
 simp[tins];omega
end Go.Proofs.YteflnddphpjahaaGreatDoor.Sp
namespace Go.Proofs.YteflnddphpjahaaGreatDoor
open Go.RowKit
theorem isNaN_rune (x:Int) (w:World):Calls Tryz.prog 250 #[.int .i32 x] w fun e w'=>e = .returned (.bool false)∧w'=w:=by
 have h:(x != x)=false:=by simp
 go_enter Tryz.func250,Tryz.ntmps250
 go_wp2
 go_ret
 exact⟨rfl,rfl⟩
def cmpI (x y:Int):Int:=if x < y then -1 else if y < x then 1 else 0
theorem compare_rune (x y:Int) (w:World):Calls Tryz.prog 168 #[.int .i32 x,.int .i32 y] w fun e w'=>e = .returned (.int .i64 (cmpI x y))∧w'=w:=by
 rcases Int.lt_trichotomy x y with h | h | h
 ·have e1:cmpI x y = -1:=if_pos h
  rw[e1];clear e1
  go_enter Tryz.func168,Tryz.ntmps168
  go_wp2_with (go_at_call 250;refine(isNaN_rune _ _).mono ?_;rintro e w' ⟨rfl,rfl⟩)
  go_ret
  exact⟨rfl,rfl⟩
 ·subst h
  have e1:cmpI x x=0:=by simp[cmpI]
  rw[e1];clear e1
  have hx:¬ x < x:=Int.lt_irrefl x
  go_enter Tryz.func168,Tryz.ntmps168
  go_wp2_with (go_at_call 250;refine(isNaN_rune _ _).mono ?_;rintro e w' ⟨rfl,rfl⟩)
  go_ret
  exact⟨rfl,rfl⟩
 ·have hn:¬ x < y:=by omega
  have e1:cmpI x y=1:=by unfold cmpI;rw[if_neg hn,if_pos h]
  rw[e1];clear e1
  go_enter Tryz.func168,Tryz.ntmps168
  go_wp2_with (go_at_call 250;refine(isNaN_rune _ _).mono ?_;rintro e w' ⟨rfl,rfl⟩)
  go_ret
  exact⟨rfl,rfl⟩
theorem placeCmp (a v y:Int) (w:World):Calls Tryz.prog 167 #[.agg #[.int .i32 a,.int .i64 v],.int .i32 y] w fun e w'=>e = .returned (.int .i64 (cmpI a y))∧Below w.heap.size w w':=by
 go_enter Tryz.func167,Tryz.ntmps167
 go_wp2_with (go_at_call 168;refine(compare_rune _ _ _).mono ?_;rintro e w' ⟨rfl,rfl⟩)
 go_ret
 exact⟨rfl,(Below.refl _ _).alloc nlr _⟩
def EntsAt (w:World) (p:Option Addr) (T:Sp.Tb):Prop := ∀ j (h:j < T.length),∃ g,p=some ⟨g,0,none⟩∧w.cell? ⟨g,j * 2,none⟩=some (.int .i32 (T[j]).1)∧w.cell? ⟨g,j * 2+1,none⟩=some (.int .i64 (T[j]).2)
theorem EntsAt.below {w w':World} {p:Option Addr} {T:Sp.Tb} (h:EntsAt w p T) (hb:Below w.heap.size w w'):EntsAt w' p T:=fun j hj=>by
 obtain⟨g,e,c0,c1⟩:=h j hj
 exact⟨g,e,(hb.cell (World.block_lt_of_cell? w _ c0)).trans c0,(hb.cell (World.block_lt_of_cell? w _ c1)).trans c1⟩
theorem search_any (p:Option Addr) (cap:Nat) (T:Sp.Tb) (y:Int) (w:World) (h:EntsAt w p T) (hT:Sp.tsorted T) (hl:T.length≤100000) :
  Calls Tryz.prog 166 #[.slice p T.length cap,.int .i32 y,.func (.func 167) #[] #[]] w fun e w'=>e = .returned (.tuple #[.int .i64 (Sp.tlow T y:Nat),.bool (Sp.thas T y)])∧Below w.heap.size w w':=by
 go_enter Tryz.func166,Tryz.ntmps166
 go_wp2
 go_loopw [9,10] (fun a b wr=>∃ i j:Nat,i≤j∧j≤T.length∧a = .int .i64 i∧b = .int .i64 j∧Below w.heap.size w wr∧(∀ k (hk:k < T.length),k < i→(T[k]).1 < y)∧(∀ k (hk:k < T.length),j≤k→y≤(T[k]).1)) (fun a b _=>(intOf b - intOf a).toNat)
 case atStart=>exact⟨0,T.length,Nat.zero_le _,Nat.le_refl _,rfl,rfl,Below.refl _ _,fun k hk h=>by omega,fun k hk h=>by omega⟩
 case round =>
  obtain⟨i,j,hij,hj,rfl,rfl,hb,hlo,hhi⟩:=hrel
  have HLO:=hde hlo
  have HHI:=hde hhi
  clear hlo hhi
  by_cases hlt:i < j
  ·have hm0:(i+j) / 2 < T.length:=by omega
   have hm1:i≤(i+j) / 2:=by omega
   have hm2:(i+j) / 2 < j:=by omega
   have hlt':(i:Int) < (j:Int):=by omega
   obtain⟨g,hp,c0,c1⟩:=(h.below hb) ((i+j) / 2) (by omega)
   subst hp
   obtain⟨x,hx⟩:∃ x,(T[(i+j) / 2]).1=x:=⟨_,rfl⟩
   obtain⟨v,hv⟩:∃ x,(T[(i+j) / 2]).2=x:=⟨_,rfl⟩
   rw[hx] at c0
   rw[hv] at c1
   have HX:=hde hx
   clear hx hv
   by_cases hxy:x < y
   ·have HC:Hid (cmpI x y = -1):=if_pos hxy
    clear hxy
    go_wp2_with (go_at_call 167;refine(placeCmp _ _ _ _).mono ?_;rintro e w' ⟨rfl,hb2⟩;rw[uh HC])
    go_roundw
    case rel =>
     refine⟨(i+j) / 2+1,j,by omega,hj,by go_num,rfl,hb.trans (hb2.mono hb.size),fun k hk hki=>?_,uh HHI⟩
     have h1:=Sp.tsorted_le hT (i:=k) (j:=(i+j) / 2) (by omega) hm0
     have h2:=uh HX
     have h3:¬ ¬ x < y:=fun hn=>by have:=uh HC;unfold cmpI at this;rw[if_neg hn] at this;split at this <;> omega
     omega
    case measure=>simp[intOf];omega
   ·have HC:Hid (0≤cmpI x y):=by show _≤_;unfold cmpI;rw[if_neg hxy];split <;> omega
    have HXY:=hde hxy
    clear hxy
    obtain⟨c,hc⟩:∃ c,cmpI x y=c:=⟨_,rfl⟩
    rw[hc] at HC
    have HC2:=hde hc
    have hc0:0≤c:=uh HC
    clear hc
    go_wp2_with (go_at_call 167;refine(placeCmp _ _ _ _).mono ?_;rintro e w' ⟨rfl,hb2⟩;rw[uh HC2])
    go_roundw
    case rel =>
     refine⟨i,(i+j) / 2,by omega,by omega,rfl,by go_num,hb.trans (hb2.mono hb.size),uh HLO,fun k hk hki=>?_⟩
     have h1:=Sp.tsorted_le hT (i:=(i+j) / 2) (j:=k) (by omega) hk
     have h2:=uh HX
     have h3:=uh HXY
     omega
    case measure=>simp[intOf];omega
  ·have hji:j=i:=by omega
   subst hji
   have HL:Hid (Sp.tlow T y=j):=Sp.tlow_at hj (uh HLO) (uh HHI)
   by_cases hjl:j < T.length
   ·have hjl':(j:Int) < (T.length:Int):=by omega
    obtain⟨g,hp,c0,c1⟩:=(h.below hb) j hjl
    subst hp
    have HH:=hde (Sp.thas_at hT y)
    obtain⟨x,hx⟩:∃ x,(T[j]).1=x:=⟨_,rfl⟩
    obtain⟨v,hv⟩:∃ x,(T[j]).2=x:=⟨_,rfl⟩
    rw[hx] at c0
    rw[hv] at c1
    have HX:=hde hx
    clear hx hv
    obtain⟨c,hc⟩:∃ c,cmpI x y=c:=⟨_,rfl⟩
    have HC2:=hde hc
    have HE:Hid (Sp.thas T y=(c == 0)):=by
     show _=_
     have h1:(c == 0)=decide (x=y):=by
      rw[← hc];unfold cmpI
      rcases Int.lt_trichotomy x y with h | h | h
      ·rw[if_pos h,decide_eq_false (by omega)];rfl
      ·subst h;simp
      ·rw[if_neg (by omega),if_pos h,decide_eq_false (by omega)];rfl
     rw[h1]
     apply Bool.eq_iff_iff.2
     rw[uh HH,decide_eq_true_iff]
     constructor
     ·rintro⟨hq,e⟩
      have e2:T[Sp.tlow T y]=T[j]:=by congr 1 <;> exact uh HL
      rw[e2] at e;rw[← e];exact(uh HX).symm
     ·intro e
      have e2:T[Sp.tlow T y]'(by rw[uh HL];exact hjl)=T[j]:=by congr 1 <;> exact uh HL
      exact⟨by rw[uh HL];exact hjl,by rw[e2];exact(uh HX).trans e⟩
    clear hc
    go_wp2_with (go_at_call 167;refine(placeCmp _ _ _ _).mono ?_;rintro e w' ⟨rfl,hb2⟩;rw[uh HC2])
    exact bodyPost_ret (v := .tuple #[.int .i64 j,.bool (c == 0)]) (by simp[results,Tryz.results166,go_sem]) rfl ⟨by rw[uh HL,uh HE],hb.trans (hb2.mono hb.size)⟩
   ·have hjl':¬ (j:Int) < (T.length:Int):=by omega
    have hj2:(T.length:Int)≤(j:Int):=by omega
    have HE:Hid (Sp.thas T y=false):=by
     show _=_
     cases hq:Sp.thas T y with
     | false=>rfl
     | true=>obtain⟨h1,_⟩:=(Sp.thas_at hT y).1 hq;rw[uh HL] at h1;omega
    go_wp2
    exact bodyPost_ret (v := .tuple #[.int .i64 j,.bool false]) (by simp[results,Tryz.results166,go_sem]) rfl ⟨by rw[uh HL,uh HE],hb⟩
def tbCells (T:Sp.Tb):List Value:=T.flatMap fun p=>[.int .i32 p.1,.int .i64 p.2]
theorem tb_len (T:Sp.Tb):(tbCells T).length=T.length * 2:=by
 induction T with
 | nil=>rfl
 | cons p t ih=>simp[tbCells] at ih ⊢;omega
theorem tb_append (A B:Sp.Tb):tbCells (A++B)=tbCells A++tbCells B:=by simp[tbCells]
theorem tb_get (T:Sp.Tb):∀ j (h:j < T.length),(tbCells T)[j * 2]? = some (.int .i32 (T[j]).1)∧(tbCells T)[j * 2+1]? = some (.int .i64 (T[j]).2):=by
 induction T with
 | nil=>intro j h;simp at h
 | cons p t ih =>
  intro j h
  have e:tbCells (p :: t) = .int .i32 p.1 :: .int .i64 p.2 :: tbCells t:=by simp[tbCells]
  rw[e]
  cases j with
  | zero=>simp
  | succ j =>
   have:=ih j (by simpa using h)
   rw[show (j+1) * 2=j * 2+1+1 by omega]
   simpa using this
theorem tb_one (T:Sp.Tb):∀ u ∈ tbCells T,u.oneCell'=true:=by
 intro u hu
 obtain⟨p,_,hp⟩:=List.mem_flatMap.1 hu
 simp at hp
 rcases hp with rfl | rfl <;> rfl
def TabAt (w:World) (B t:Nat) (T:Sp.Tb):Prop :=
 ∃ v,w.heap[t]? = some (.cells #[v] 243 (0,0))∧w.ownsRow B 313 2 v T.length (tbCells T)
theorem ents_of_own {w:World} {B:Nat} {v:Value} {T:Sp.Tb} (h:w.ownsRow B 313 2 v T.length (tbCells T)):∃ p cap,v = .slice p T.length cap∧EntsAt w p T:=by
 have h':=h
 rcases h.2 with ⟨hv,hn⟩ | ⟨g,cap,cur,hv,_⟩
 ·subst hv
  refine⟨none,0,by rw[hn],fun j hj=>by omega⟩
 ·subst hv
  refine⟨some ⟨g,0,none⟩,cap,rfl,fun j hj=>⟨g,rfl,?_,?_⟩⟩
  ·rw[h'.cellAt _ (by omega)];exact(tb_get T j hj).1
  ·rw[h'.cellAt _ (by omega)];exact(tb_get T j hj).2
theorem TabAt.below {w w':World} {B t:Nat} {T:Sp.Tb} (h:TabAt w B t T) (hb:Below w.heap.size w w'):TabAt w' B t T:=by
 obtain⟨v,h1,h2⟩:=h
 exact⟨v,(hb.block t (lt_of_block h1)).trans h1,obl h2 hb⟩
theorem tab_cell {w:World} {t:Nat} {v:Value} {e:TypeId} (h:w.heap[t]? = some (.cells #[v] e (0,0))):w.cell? ⟨t,0,none⟩=some v:=by
 rw[cell_of_row w t 0 _ _ _ h];rfl
theorem tplace_any (t B:Nat) (T:Sp.Tb) (y:Int) (w:World) (h:TabAt w B t T) (hT:Sp.tsorted T) (hl:T.length≤100000) :
  Calls Tryz.prog 115 #[.pointer (some ⟨t,0,none⟩),.int .i32 y] w fun e w'=>e = .returned (.tuple #[.int .i64 (Sp.tlow T y:Nat),.bool (Sp.thas T y)])∧Below w.heap.size w w':=by
 obtain⟨v,hv,ho⟩:=h
 obtain⟨p,cap,rfl,he⟩:=ents_of_own ho
 have hc:=tab_cell hv
 clear hv ho
 go_enter Tryz.func115,Tryz.ntmps115
 go_wp2_with fail
 refine(search_any p cap T y w he hT hl).mono ?_
 rintro e w' ⟨rfl,hb⟩
 go_wp2
 exact bodyPost_ret (v := .tuple #[.int .i64 (Sp.tlow T y:Nat),.bool (Sp.thas T y)]) (by simp[results,Tryz.results115,go_sem]) rfl ⟨rfl,hb⟩
theorem tlen_any (t B:Nat) (T:Sp.Tb) (w:World) (h:TabAt w B t T) :
  Calls Tryz.prog 65 #[.pointer (some ⟨t,0,none⟩)] w fun e w'=>e = .returned (.int .i64 T.length)∧w'=w:=by
 obtain⟨v,hv,ho⟩:=h
 obtain⟨p,cap,rfl,he⟩:=ents_of_own ho
 have hc:=tab_cell hv
 clear hv ho
 go_enter Tryz.func65,Tryz.ntmps65
 go_wp2
 go_ret
 exact⟨rfl,rfl⟩
theorem run_copy_rowK {P:Program} (w:World) (dT sT ty elem:TypeId) (sz g o dLen dCap:Nat) (a:Addr) (sLen sCap:Nat) (cur:Array Value) (t:TypeId) (cs:List Value)
  (hu:P.underlying dT=some (.slice elem)) (hs:(P.info? elem).map (·.size)=some sz)
  (hg:w.heap[g]? = some (.cells cur t (0,0))) (k:Nat) (hk:Nat.min sLen dLen=k) (hn:cs.length=k * sz)
  (hsrc:∀ j v,cs[j]? = some v→w.cell? (a.add j)=some v) (hfit:o+cs.length≤cur.size) (h1:∀ v ∈ cs,v.oneCell'=true) :
  (Builtin.copy_ #[dT,sT] ty #[.slice (some ⟨g,o,none⟩) dLen dCap,.slice (some a) sLen sCap]).run P w =
   .ok (goInt k) (w.setRow g (cur.toList.take o++cs++cur.toList.drop (o+cs.length)).toArray):=by
 have hl:=run_loadCells_list (P:=P) w a cs hsrc
 have hst:=run_storeCells_at P g o t cs 0 cur w hg (by simpa using hfit) h1
 cases hq:P.info? elem with
 | none=>simp[hq] at hs
 | some i =>
  have hi:i.size=sz:=by simpa [hq] using hs
  simp[Builtin.copy_,run_underlying hu,Builtin.lenOf,Builtin.firstCells,sizeOf,typeInfo,hq,hi,hk,← hn,hl,hst]
end Go.Proofs.YteflnddphpjahaaGreatDoor
