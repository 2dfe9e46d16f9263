import Derived.Test.YteflnddphpjahaaGreatDoorClShelf
import Derived.Test.YteflnddphpjahaaGreatDoorClSameAtoLineD
import Derived.Test.YteflnddphpjahaaGreatDoorRows
import Derived.ProofKit
import Derived.PinnedBridge
import Derived.Lay
import Derived.LaidOnce
import Derived.LaidMore
import Derived.HandedShaped
import Derived.Lib.LaidU8T
import Derived.OpenShut
import Derived.ShutString
import Derived.Test.YteflnddphpjahaaGreatDoorClPlAtoPlK
import Derived.Test.YteflnddphpjahaaGreatDoorClRefEtoRefG
import Derived.Deep.DeepMust
import Derived.Deep.DeepCutAuto
set_option linter.unusedVariables false
set_option linter.unusedSimpArgs false
set_option maxRecDepth 100000
set_option maxHeartbeats 16000000
namespace Go.Proofs.YteflnddphpjahaaGreatDoor
open Go.RowKit Go.Shelf Go.Lib
theorem handed {H:Type} {enc:TypeId × Value→H} {a:Assume} {C:Checked} {os:Os} {f:FuncId} {fn:Func} {s:ChangeSpec} {conds:List PathCond} {apart fresh handsOn again:Bool} {X:World→Array Value→Prop}
  (hX:∀ (w w':World) (args:Array Value),w.heap=w'.heap→X w args→X w' args)
  (own:ownKnob C.prog.godebug=none) (started:os.Started) (noInit:C.prog.inits.idxOf? f=none) (hfn:C.prog.funcs[f]? = some fn)
  (witness:∃ (w:World) (tape:Tape) (i:Input),w.os=os∧(w.forCall tape i).Shaped C.prog∧i.vars=[]∧Input.okWide C.prog (w.forCall tape i) .any w.heap.size f i ∧
    ((s.pre enc C.prog fn conds apart (w.forCall tape i).memory i.args∧X (w.forCall tape i).memory i.args)∧sizedMet enc C.prog fn (OpenSpec.ofChange s) apart (w.forCall tape i).memory i.args)∧a.holds C.prog (lone (Frame.enter C.prog f i.args .normal) [] (w.forCall tape i)))
  (contract:∀ (W:World) (base:Nat) (args:Array Value) (ds gs:List (DataW H)) (before:List MemPlace),
    (∀ (j:Nat) t v,fn.params[j]? = some t→args[j]? = some v→Value.okWide C.prog W .any base t v) →
    DataW.Whole enc C.prog fn.params.toList s.vars apart W args.toList ds gs before→W.ShapedOpen C.prog→X W args →
    Calls C.prog f args W fun e W'=>∃ v,e = .returned v∧s.post enc C.prog fn apart fresh handsOn again W args v W') :
  ReturnsInHanded a C os f .any (fun w args=>(s.pre enc C.prog fn conds apart w args∧X w args)∧sizedMet enc C.prog fn (OpenSpec.ofChange s) apart w args) (s.post enc C.prog fn apart fresh handsOn again):=by
 refine returnsInHanded_of_calls own started noInit witness ?_
 intro w tape i _ hsh _ hok hpre _
 obtain⟨_,_,_,fn',hfn',_,_,_,_,hval⟩:=hok
 obtain rfl:fn'=fn:=Option.some.inj (hfn'.symm.trans hfn)
 obtain⟨⟨⟨ds,gs,before,hw,_⟩,hx⟩,_⟩:=hpre
 refine(contract (w.forCall tape i) w.heap.size i.args ds gs before hval (DataW.Whole.of_heap (w':=w.forCall tape i) (by rfl) hw) hsh (hX _ _ _ (by rfl) hx)).mono fun e W' ⟨v,he,hp⟩=>?_
 subst he
 exact ChangeSpec.post_blind hp
theorem own:ownKnob Tryz.prog.godebug=none:=by kernel_rfl
theorem u8x:U8Extra Tryz.prog Tryz.lays260_ren:=⟨by kernel_rfl,by kernel_rfl,by kernel_rfl,by kernel_rfl,by kernel_rfl,by kernel_rfl,by kernel_rfl⟩
theorem accept_eq:(Rows.laid_unicode_utf8_acceptRanges:DataW Unit)=acceptData:=by kernel_rfl
theorem first_eq:Rows.laid_unicode_utf8_first=firstData:=Pinned.utf8First_eq
theorem tabs_of {w : World} (h1 : VarReads Tryz.prog w "unicode/utf8.first" Rows.laid_unicode_utf8_first) (h2 : VarReads Tryz.prog w "unicode/utf8.acceptRanges" Rows.laid_unicode_utf8_acceptRanges) : Lib.Utf8Tabs 3 4 w :=
 utf8Tabs_of_readsT (U8Types.of260 Tryz.lays260) u8x (first_eq ▸ h1) (accept_eq ▸ h2)
theorem split_of {w:World} (h:w.ShapedOpen Tryz.prog):SplitOk w:=Tryz.laysM143.s1_3 w h
end Go.Proofs.YteflnddphpjahaaGreatDoor
namespace Go.Proofs.YteflnddphpjahaaGreatDoor.Sp
open Go
def hit (S t:List UInt8) (i:Nat):Prop:=(S.drop i).take t.length=t
def inB (S w:List UInt8):Prop:=w≠[]∧∃ i,i+(w.length+2)≤S.length∧hit S (32 :: (w++[32])) i
def bl:List (List UInt8)→List UInt8
 | []=>[32]
 | x :: r=>32 :: (x++bl r)
theorem bl_head (l:List (List UInt8)):∃ r,bl l=32 :: r:=by
 cases l with
 | nil=>exact⟨[],rfl⟩
 | cons x r=>exact⟨_,rfl⟩
theorem pre_iff {S t:List UInt8} {i:Nat}:hit S t i↔t <+: S.drop i:=by
 unfold hit
 constructor
 ·intro h
  refine⟨(S.drop i).drop t.length,?_⟩
  conv=>lhs;lhs;rw[← h]
  exact List.take_append_drop _ _
 ·rintro⟨r,h⟩;rw[← h];simp
theorem cut_eq:∀ (a b x y:List UInt8),(32:UInt8) ∉ a→(32:UInt8) ∉ b→a++32 :: x=b++32 :: y→a=b∧x=y:=by
 intro a
 induction a with
 | nil =>
  intro b x y _ hb h
  cases b with
  | nil=>simp at h;exact⟨rfl,h⟩
  | cons c t=>simp at h;exact absurd (by rw[h.1];exact List.mem_cons_self ..) hb
 | cons c t ih =>
  intro b x y ha hb h
  cases b with
  | nil=>simp at h;exact absurd (by rw[h.1];exact List.mem_cons_self ..) ha
  | cons d u =>
   simp only[List.cons_append,List.cons.injEq] at h
   obtain⟨h1,h2⟩:=ih u x y (fun hm=>ha (List.mem_cons_of_mem _ hm)) (fun hm=>hb (List.mem_cons_of_mem _ hm)) h.2
   exact⟨by rw[h.1,h1],h2⟩
theorem word_at_head {w:List UInt8} (hw:(32:UInt8) ∉ w) {l:List (List UInt8)} (hl:∀ x ∈ l,(32:UInt8) ∉ x) (h:32 :: (w++[32]) <+: bl l):∃ x r,l=x :: r∧x=w:=by
 obtain⟨q,hq⟩:=h
 cases l with
 | nil=>simp[bl] at hq
 | cons x r =>
  obtain⟨z,hz⟩:=bl_head r
  simp only[bl,hz,List.cons_append,List.cons.injEq,true_and,List.append_assoc,List.nil_append] at hq
  obtain⟨e,_⟩:=cut_eq w x q z hw (hl x (List.mem_cons_self ..)) hq
  exact⟨x,r,rfl,e.symm⟩
theorem hits_bl {w:List UInt8} (hw:(32:UInt8) ∉ w):∀ (l:List (List UInt8)),(∀ x ∈ l,(32:UInt8) ∉ x)→∀ i,(32 :: (w++[32])) <+: (bl l).drop i→w ∈ l:=by
 intro l
 induction l with
 | nil =>
  intro _ i h
  cases i with
  | zero=>obtain⟨x,r,e,_⟩:=word_at_head hw (l:=[]) (fun x hx=>by simp at hx) (by simpa using h);cases e
  | succ i=>obtain⟨q,hq⟩:=h;simp[bl] at hq
 | cons x r ih =>
  intro hl i h
  by_cases h0:i=0
  ·subst h0
   obtain⟨y,s,e,e2⟩:=word_at_head hw hl (by simpa using h)
   injection e with e3 e4
   rw[← e2,← e3];exact List.mem_cons_self ..
  ·obtain⟨k,rfl⟩:∃ k,i=k+1:=⟨i - 1,by omega⟩
   simp only[bl,List.drop_succ_cons] at h
   by_cases hk:k < x.length
   ·
    rw[List.drop_append_of_le_length (by omega),List.drop_eq_getElem_cons hk] at h
    obtain⟨q,hq⟩:=h
    simp only[List.cons_append,List.cons.injEq] at hq
    exact absurd (by rw[hq.1];exact List.getElem_mem hk) (hl x (List.mem_cons_self ..))
   ·rw[List.drop_append,List.drop_of_length_le (by omega),List.nil_append] at h
    exact List.mem_cons_of_mem _ (ih (fun y hy=>hl y (List.mem_cons_of_mem _ hy)) _ h)
theorem bl_hits {w:List UInt8}:∀ (l:List (List UInt8)),w ∈ l→∃ i,(32 :: (w++[32])) <+: (bl l).drop i:=by
 intro l
 induction l with
 | nil=>intro h;simp at h
 | cons x r ih =>
  intro h
  simp only[List.mem_cons] at h
  rcases h with rfl | h
  ·obtain⟨z,hz⟩:=bl_head r
   exact⟨0,by simp only[bl,hz,List.drop_zero];exact⟨z,by simp⟩⟩
  ·obtain⟨i,hi⟩:=ih h
   refine⟨(32 :: x).length+i,?_⟩
   have e:bl (x :: r)=(32 :: x)++bl r:=by simp[bl]
   rw[e,List.drop_append,List.drop_of_length_le (by omega),List.nil_append,show (32 :: x).length+i - (32 :: x).length=i by omega]
   exact hi
theorem inB_bl {S w:List UInt8} {l:List (List UInt8)} (hS:S=bl l) (hl:∀ x ∈ l,(32:UInt8) ∉ x) (hw:(32:UInt8) ∉ w):inB S w↔w≠[]∧w ∈ l:=by
 subst hS
 unfold inB
 constructor
 ·rintro⟨h1,i,_,h3⟩
  exact⟨h1,hits_bl hw l hl i (pre_iff.1 h3)⟩
 ·rintro⟨h1,h2⟩
  obtain⟨i,hi⟩:=bl_hits l h2
  refine⟨h1,i,?_,pre_iff.2 hi⟩
  have:=hi.length_le
  simp only[List.length_cons,List.length_append,List.length_nil,List.length_drop] at this
  omega
end Go.Proofs.YteflnddphpjahaaGreatDoor.Sp
namespace Go.Proofs.YteflnddphpjahaaGreatDoor
open Go.RowKit
theorem toL (b:ByteArray):b.toList=b.data.toList:=by simp[ByteArray.toList_eq]
open Classical in
theorem in_any (S x:ByteArray) (w:World) (hS:S.size≤1000) (hx:x.size≤4000):Calls Tryz.prog 108 #[.string S,.string x] w fun e w'=>e = .returned (.bool (decide (Sp.inB S.data.toList x.data.toList)))∧w'=w:=by
 obtain⟨t,ht⟩:∃ t,(⟨#[32]⟩++x++⟨#[32]⟩:ByteArray)=t:=⟨_,rfl⟩
 have HTL:Hid (t.data.toList=32 :: (x.data.toList++[32])):=by
  show _=_
  rw[← ht,ByteArray.data_append,Array.toList_append,ByteArray.data_append,Array.toList_append]
  rfl
 have hts:t.size=x.size+2:=by rw[← ht,ByteArray.size_append,ByteArray.size_append];show 1+x.size+1=_;omega
 have HTS:=hde hts
 have htz:t.size≤4002:=by omega
 clear hts
 go_enter Tryz.func108,Tryz.ntmps108
 go_wp2
 clear ht
 go_loopw [6] (fun u wr=>∃ i:Nat,u = .int .i64 i∧i≤2000∧wr=w∧Hid (∀ k,k < i→k+(x.size+2)≤S.size→¬ Sp.hit S.data.toList (32 :: (x.data.toList++[32])) k)) (fun u _=>2001 - (intOf u).toNat)
 case atStart=>exact⟨0,rfl,by omega,rfl,fun k hk=>by omega⟩
 case round =>
  obtain⟨i,rfl,hi,hw,HN⟩:=hrel
  obtain rfl:=hw.symm
  clear hw
  obtain⟨k,HK⟩:∃ k,Hid (k=i+t.size):=⟨_,rfl⟩
  have hk:(i:Int)+(t.size:Int)=(k:Int):=by have:=uh HK;omega
  have hik:i≤k:=by have:=uh HK;omega
  have hikz:(i:Int)≤(k:Int):=by omega
  have hkz:k≤7000:=by have:=uh HK;omega
  by_cases hlt:k≤S.size
  ·have hltz:(k:Int)≤(S.size:Int):=by omega
   have HEX:Hid ((S.extract i k).data.toList=(S.data.toList.drop i).take t.size):=by
    show _=_
    rw[ByteArray.data_extract,Array.toList_extract,uh HK]
    simp
   by_cases hm:(S.extract i k).data.toList=t.data.toList
   ·have g1:((S.extract i k).toList == t.toList)=true:=by rw[beq_iff_eq,toL,toL];exact hm
    have HM:=hde hm
    clear hm
    go_wp2
    go_ret
    refine⟨?_,rfl⟩
    have hit:Sp.hit S.data.toList (32 :: (x.data.toList++[32])) i:=by
     have h1:=uh HM
     rw[uh HEX,uh HTL] at h1
     unfold Sp.hit
     have h2:(32 :: (x.data.toList++[32]):List UInt8).length=t.size:=by have:=uh HTS;simp;omega
     rw[h2];exact h1
    show Ending.returned (Value.bool _)=Ending.returned (Value.bool _)
    congr 2
    cases hxl:x.data.toList with
    | nil =>
     rw[decide_eq_false (fun hc=>hc.1 rfl)]
     rw[toL,hxl];rfl
    | cons a r =>
     rw[hxl] at hit
     rw[decide_eq_true]
     ·rw[toL,hxl];rfl
     ·refine⟨by simp,i,?_,hit⟩
      have h3:S.data.toList.length=S.size:=by simp
      have h4:x.data.toList.length=x.size:=by simp
      rw[hxl] at h4
      have:=uh HK
      have:=uh HTS
      omega
   ·have g1:((S.extract i k).toList == t.toList)=false:=by rw[beq_eq_false_iff_ne,toL,toL];exact hm
    have HM:=hde hm
    clear hm
    go_wp2
    go_roundw
    case rel =>
     refine⟨i+1,by go_num,by omega,by trivial,?_⟩
     intro j hj1 hj2 hj3
     by_cases hji:j=i
     ·subst hji
      apply uh HM
      rw[uh HEX,uh HTL]
      unfold Sp.hit at hj3
      have h2:(32 :: (x.data.toList++[32]):List UInt8).length=t.size:=by have:=uh HTS;simp;omega
      rw[h2] at hj3;exact hj3
     ·exact(uh HN) j (by omega) hj2 hj3
    case measure=>simp[intOf];omega
  ·have hltz:¬ (k:Int)≤(S.size:Int):=by omega
   go_wp2
   go_ret
   refine⟨?_,rfl⟩
   rw[decide_eq_false]
   rfl
   rintro⟨_,j,h1,h2⟩
   have h3:S.data.toList.length=S.size:=by simp
   have h4:x.data.toList.length=x.size:=by simp
   have:=uh HK
   have:=uh HTS
   exact(uh HN) j (by omega) (by omega) h2
end Go.Proofs.YteflnddphpjahaaGreatDoor
namespace Go.Proofs.YteflnddphpjahaaGreatDoor.Sp
open Go
def loadsL:List (List UInt8):=[[118,97,108,117,101],[111,108,100],[105,110],[103,111,116],[115,116,101,112],[105,100],[100,101,103],[97,108,108]]
def twosL:List (List UInt8):=[[43],[45],[42],[47],[37],[60],[61],[109,105,110],[109,97,120]]
def combsL:List (List UInt8):=[[109,105,110],[109,97,120],[115,117,109]]
def tk (wt:Bool) (x:List UInt8):Option (Nat × Nat):=
 if (number x).isSome=true∨x ∈ loadsL∨(wt=true∧x=[119,101,105,103,104,116]) then some (0,1)
 else if x ∈ twosL then some (2,1)
 else if x=[100,117,112] then some (1,2)
 else if x=[100,114,111,112] then some (1,0)
 else if x=[91] then some (1,0)
 else if x=[115,119,97,112] then some (2,2)
 else if x=[111,118,101,114] then some (2,3)
 else if x=[63] then some (3,1)
 else if x=[93] then some (0,0)
 else none
theorem in_loads {w:List UInt8} (hw:(32:UInt8) ∉ w):inB [32,118,97,108,117,101,32,111,108,100,32,105,110,32,103,111,116,32,115,116,101,112,32,105,100,32,100,101,103,32,97,108,108,32] w↔w ∈ loadsL:=by
 refine(inB_bl (l:=loadsL) (by decide) (by decide) hw).trans ?_
 exact⟨fun h=>h.2,fun h=>⟨fun e=>by subst e;revert h;decide,h⟩⟩
theorem in_twos {w:List UInt8} (hw:(32:UInt8) ∉ w):inB [32,43,32,45,32,42,32,47,32,37,32,60,32,61,32,109,105,110,32,109,97,120,32] w↔w ∈ twosL:=by
 refine(inB_bl (l:=twosL) (by decide) (by decide) hw).trans ?_
 exact⟨fun h=>h.2,fun h=>⟨fun e=>by subst e;revert h;decide,h⟩⟩
theorem in_combs {w:List UInt8} (hw:(32:UInt8) ∉ w):inB [32,109,105,110,32,109,97,120,32,115,117,109,32] w↔w ∈ combsL:=by
 refine(inB_bl (l:=combsL) (by decide) (by decide) hw).trans ?_
 exact⟨fun h=>h.2,fun h=>⟨fun e=>by subst e;revert h;decide,h⟩⟩
end Go.Proofs.YteflnddphpjahaaGreatDoor.Sp
namespace Go.Proofs.YteflnddphpjahaaGreatDoor
open Go.RowKit
def tkOut:Option (Nat × Nat)→Value
 | none=>.tuple #[.int .i64 0,.int .i64 0,.bool false]
 | some (n,m)=>.tuple #[.int .i64 (n:Int),.int .i64 (m:Int),.bool true]
open Classical in
theorem takes_any (x:ByteArray) (wt:Bool) (w:World) (hx:x.size≤4000) (h32:(32:UInt8) ∉ x.data.toList):Calls Tryz.prog 158 #[.string x,.bool wt] w fun e w'=>e = .returned (tkOut (Sp.tk wt x.data.toList))∧w'=w:=by
 obtain⟨v,HV⟩:∃ v,Hid (Sp.number x.data.toList=v):=⟨_,rfl⟩
 obtain⟨lb,HLB⟩:∃ b:Bool,Hid (b=decide (x.data.toList ∈ Sp.loadsL)):=⟨_,rfl⟩
 obtain⟨tb,HTB⟩:∃ b:Bool,Hid (b=decide (x.data.toList ∈ Sp.twosL)):=⟨_,rfl⟩
 have H1:Hid (Calls Tryz.prog 238 #[.string x] w fun e w'=>e = .returned (.tuple #[.int .i64 (v.getD 0),.bool v.isSome])∧w'=w):=by
  have h:=number_any x w hx
  rw[uh HV] at h
  exact h
 have H2:Hid (Calls Tryz.prog 108 #[.string ⟨#[32,118,97,108,117,101,32,111,108,100,32,105,110,32,103,111,116,32,115,116,101,112,32,105,100,32,100,101,103,32,97,108,108,32]⟩,.string x] w fun e w'=>e = .returned (.bool lb)∧w'=w):=by
  have h:=in_any ⟨#[32,118,97,108,117,101,32,111,108,100,32,105,110,32,103,111,116,32,115,116,101,112,32,105,100,32,100,101,103,32,97,108,108,32]⟩ x w (by decide) hx
  rw[decide_eq_decide.2 (Sp.in_loads h32),← uh HLB] at h
  exact h
 have H3:Hid (Calls Tryz.prog 108 #[.string ⟨#[32,43,32,45,32,42,32,47,32,37,32,60,32,61,32,109,105,110,32,109,97,120,32]⟩,.string x] w fun e w'=>e = .returned (.bool tb)∧w'=w):=by
  have h:=in_any ⟨#[32,43,32,45,32,42,32,47,32,37,32,60,32,61,32,109,105,110,32,109,97,120,32]⟩ x w (by decide) hx
  rw[decide_eq_decide.2 (Sp.in_twos h32),← uh HTB] at h
  exact h
 have hyes:∀ {c:Prop} [Decidable c] {b:Bool},b=decide c→b=true→c:=fun h1 h2=>of_decide_eq_true (h1.symm.trans h2)
 go_enter Tryz.func158,Tryz.ntmps158
 go_wp2_with fail
 refine(uh H1).mono ?_
 rintro e w1 ⟨rfl,hw1⟩
 obtain rfl:=hw1.symm
 clear hw1
 go_wp2_with fail
 refine(uh H2).mono ?_
 rintro e w2 ⟨rfl,hw2⟩
 obtain rfl:=hw2.symm
 clear hw2
 go_wp2_with fail
 refine(uh H3).mono ?_
 rintro e w3 ⟨rfl,hw3⟩
 obtain rfl:=hw3.symm
 clear hw3
 cases v with
 | some n =>
  have HE:Hid (Sp.tk wt x.data.toList=some (0,1)):=by show _=_;unfold Sp.tk;rw[if_pos (Or.inl (by rw[uh HV];rfl))]
  go_wp2
  refine bodyPost_ret (v:=tkOut (some (0,1))) (by simp[results,Tryz.results158,go_sem,tkOut]) rfl ?_
  exact⟨by rw[uh HE],rfl⟩
 | none =>
 cases lb with
 | true =>
  have h1:x.data.toList ∈ Sp.loadsL:=hyes (uh HLB) rfl
  have HE:Hid (Sp.tk wt x.data.toList=some (0,1)):=by show _=_;unfold Sp.tk;rw[if_pos (Or.inr (Or.inl h1))]
  go_wp2
  refine bodyPost_ret (v:=tkOut (some (0,1))) (by simp[results,Tryz.results158,go_sem,tkOut]) rfl ?_
  exact⟨by rw[uh HE],rfl⟩
 | false =>
 have hl:¬ x.data.toList ∈ Sp.loadsL:=of_decide_eq_false (uh HLB).symm
 have HL:=hde hl
 clear hl
 cases wt with
 | true =>
  by_cases c0:x.data.toList=[119,101,105,103,104,116]
  ·have g0:(x.toList == [119,101,105,103,104,116])=true:=toList_is c0
   have HE:Hid (Sp.tk true x.data.toList=some (0,1)):=by show _=_;unfold Sp.tk;rw[if_pos (Or.inr (Or.inr ⟨rfl,c0⟩))]
   go_wp2
   refine bodyPost_ret (v:=tkOut (some (0,1))) (by simp[results,Tryz.results158,go_sem,tkOut]) rfl ?_
   exact⟨by rw[uh HE],rfl⟩
  have g0:(x.toList == [119,101,105,103,104,116])=false:=toList_ne c0
  have HC0:=hde c0
  clear c0
  have hn0:¬ ((Sp.number x.data.toList).isSome=true∨x.data.toList ∈ Sp.loadsL∨(true=true∧x.data.toList=[119,101,105,103,104,116])):=by rw[uh HV];exact fun h=>h.elim (fun h=>by cases h) (fun h=>h.elim (fun h=>uh HL h) (fun h=>uh HC0 h.2))
  have HN0:=hde hn0
  clear hn0
  cases tb with
  | true =>
   have h2:x.data.toList ∈ Sp.twosL:=hyes (uh HTB) rfl
   have HE:Hid (Sp.tk true x.data.toList=some (2,1)):=by show _=_;unfold Sp.tk;rw[if_neg (uh HN0),if_pos h2]
   go_wp2
   refine bodyPost_ret (v:=tkOut (some (2,1))) (by simp[results,Tryz.results158,go_sem,tkOut]) rfl ?_
   exact⟨by rw[uh HE],rfl⟩
  | false =>
   have HN1:Hid (¬ x.data.toList ∈ Sp.twosL):=of_decide_eq_false (uh HTB).symm
   by_cases c2:x.data.toList=[100,117,112]
   ·have g2:(x.toList == [100,117,112])=true:=toList_is c2
    have HE:Hid (Sp.tk true x.data.toList=some (1,2)):=by show _=_;unfold Sp.tk;rw[if_neg (uh HN0),if_neg (uh HN1),if_pos c2]
    go_wp2
    refine bodyPost_ret (v:=tkOut (some (1,2))) (by simp[results,Tryz.results158,go_sem,tkOut]) rfl ?_
    exact⟨by rw[uh HE],rfl⟩
   have g2:(x.toList == [100,117,112])=false:=toList_ne c2
   have HN2:=hde c2
   clear c2
   by_cases c3:x.data.toList=[100,114,111,112]
   ·have g3:(x.toList == [100,114,111,112])=true:=toList_is c3
    have HE:Hid (Sp.tk true x.data.toList=some (1,0)):=by show _=_;unfold Sp.tk;rw[if_neg (uh HN0),if_neg (uh HN1),if_neg (uh HN2),if_pos c3]
    go_wp2
    refine bodyPost_ret (v:=tkOut (some (1,0))) (by simp[results,Tryz.results158,go_sem,tkOut]) rfl ?_
    exact⟨by rw[uh HE],rfl⟩
   have g3:(x.toList == [100,114,111,112])=false:=toList_ne c3
   have HN3:=hde c3
   clear c3
   by_cases c4:x.data.toList=[91]
   ·have g4:(x.toList == [91])=true:=toList_is c4
    have HE:Hid (Sp.tk true x.data.toList=some (1,0)):=by show _=_;unfold Sp.tk;rw[if_neg (uh HN0),if_neg (uh HN1),if_neg (uh HN2),if_neg (uh HN3),if_pos c4]
    go_wp2
    refine bodyPost_ret (v:=tkOut (some (1,0))) (by simp[results,Tryz.results158,go_sem,tkOut]) rfl ?_
    exact⟨by rw[uh HE],rfl⟩
   have g4:(x.toList == [91])=false:=toList_ne c4
   have HN4:=hde c4
   clear c4
   by_cases c5:x.data.toList=[115,119,97,112]
   ·have g5:(x.toList == [115,119,97,112])=true:=toList_is c5
    have HE:Hid (Sp.tk true x.data.toList=some (2,2)):=by show _=_;unfold Sp.tk;rw[if_neg (uh HN0),if_neg (uh HN1),if_neg (uh HN2),if_neg (uh HN3),if_neg (uh HN4),if_pos c5]
    go_wp2
    refine bodyPost_ret (v:=tkOut (some (2,2))) (by simp[results,Tryz.results158,go_sem,tkOut]) rfl ?_
    exact⟨by rw[uh HE],rfl⟩
   have g5:(x.toList == [115,119,97,112])=false:=toList_ne c5
   have HN5:=hde c5
   clear c5
   by_cases c6:x.data.toList=[111,118,101,114]
   ·have g6:(x.toList == [111,118,101,114])=true:=toList_is c6
    have HE:Hid (Sp.tk true x.data.toList=some (2,3)):=by show _=_;unfold Sp.tk;rw[if_neg (uh HN0),if_neg (uh HN1),if_neg (uh HN2),if_neg (uh HN3),if_neg (uh HN4),if_neg (uh HN5),if_pos c6]
    go_wp2
    refine bodyPost_ret (v:=tkOut (some (2,3))) (by simp[results,Tryz.results158,go_sem,tkOut]) rfl ?_
    exact⟨by rw[uh HE],rfl⟩
   have g6:(x.toList == [111,118,101,114])=false:=toList_ne c6
   have HN6:=hde c6
   clear c6
   by_cases c7:x.data.toList=[63]
   ·have g7:(x.toList == [63])=true:=toList_is c7
    have HE:Hid (Sp.tk true x.data.toList=some (3,1)):=by show _=_;unfold Sp.tk;rw[if_neg (uh HN0),if_neg (uh HN1),if_neg (uh HN2),if_neg (uh HN3),if_neg (uh HN4),if_neg (uh HN5),if_neg (uh HN6),if_pos c7]
    go_wp2
    refine bodyPost_ret (v:=tkOut (some (3,1))) (by simp[results,Tryz.results158,go_sem,tkOut]) rfl ?_
    exact⟨by rw[uh HE],rfl⟩
   have g7:(x.toList == [63])=false:=toList_ne c7
   have HN7:=hde c7
   clear c7
   by_cases c8:x.data.toList=[93]
   ·have g8:(x.toList == [93])=true:=toList_is c8
    have HE:Hid (Sp.tk true x.data.toList=some (0,0)):=by show _=_;unfold Sp.tk;rw[if_neg (uh HN0),if_neg (uh HN1),if_neg (uh HN2),if_neg (uh HN3),if_neg (uh HN4),if_neg (uh HN5),if_neg (uh HN6),if_neg (uh HN7),if_pos c8]
    go_wp2
    refine bodyPost_ret (v:=tkOut (some (0,0))) (by simp[results,Tryz.results158,go_sem,tkOut]) rfl ?_
    exact⟨by rw[uh HE],rfl⟩
   have g8:(x.toList == [93])=false:=toList_ne c8
   have HN8:=hde c8
   clear c8
   have HE:Hid (Sp.tk true x.data.toList=none):=by show _=_;unfold Sp.tk;rw[if_neg (uh HN0),if_neg (uh HN1),if_neg (uh HN2),if_neg (uh HN3),if_neg (uh HN4),if_neg (uh HN5),if_neg (uh HN6),if_neg (uh HN7),if_neg (uh HN8)]
   go_wp2
   refine bodyPost_ret (v:=tkOut (none)) (by simp[results,Tryz.results158,go_sem,tkOut]) rfl ?_
   exact⟨by rw[uh HE],rfl⟩
 | false =>
  have hn0:¬ ((Sp.number x.data.toList).isSome=true∨x.data.toList ∈ Sp.loadsL∨(false=true∧x.data.toList=[119,101,105,103,104,116])):=by rw[uh HV];exact fun h=>h.elim (fun h=>by cases h) (fun h=>h.elim (fun h=>uh HL h) (fun h=>by cases h.1))
  have HN0:=hde hn0
  clear hn0
  cases tb with
  | true =>
   have h2:x.data.toList ∈ Sp.twosL:=hyes (uh HTB) rfl
   have HE:Hid (Sp.tk false x.data.toList=some (2,1)):=by show _=_;unfold Sp.tk;rw[if_neg (uh HN0),if_pos h2]
   go_wp2
   refine bodyPost_ret (v:=tkOut (some (2,1))) (by simp[results,Tryz.results158,go_sem,tkOut]) rfl ?_
   exact⟨by rw[uh HE],rfl⟩
  | false =>
   have HN1:Hid (¬ x.data.toList ∈ Sp.twosL):=of_decide_eq_false (uh HTB).symm
   by_cases c2:x.data.toList=[100,117,112]
   ·have g2:(x.toList == [100,117,112])=true:=toList_is c2
    have HE:Hid (Sp.tk false x.data.toList=some (1,2)):=by show _=_;unfold Sp.tk;rw[if_neg (uh HN0),if_neg (uh HN1),if_pos c2]
    go_wp2
    refine bodyPost_ret (v:=tkOut (some (1,2))) (by simp[results,Tryz.results158,go_sem,tkOut]) rfl ?_
    exact⟨by rw[uh HE],rfl⟩
   have g2:(x.toList == [100,117,112])=false:=toList_ne c2
   have HN2:=hde c2
   clear c2
   by_cases c3:x.data.toList=[100,114,111,112]
   ·have g3:(x.toList == [100,114,111,112])=true:=toList_is c3
    have HE:Hid (Sp.tk false x.data.toList=some (1,0)):=by show _=_;unfold Sp.tk;rw[if_neg (uh HN0),if_neg (uh HN1),if_neg (uh HN2),if_pos c3]
    go_wp2
    refine bodyPost_ret (v:=tkOut (some (1,0))) (by simp[results,Tryz.results158,go_sem,tkOut]) rfl ?_
    exact⟨by rw[uh HE],rfl⟩
   have g3:(x.toList == [100,114,111,112])=false:=toList_ne c3
   have HN3:=hde c3
   clear c3
   by_cases c4:x.data.toList=[91]
   ·have g4:(x.toList == [91])=true:=toList_is c4
    have HE:Hid (Sp.tk false x.data.toList=some (1,0)):=by show _=_;unfold Sp.tk;rw[if_neg (uh HN0),if_neg (uh HN1),if_neg (uh HN2),if_neg (uh HN3),if_pos c4]
    go_wp2
    refine bodyPost_ret (v:=tkOut (some (1,0))) (by simp[results,Tryz.results158,go_sem,tkOut]) rfl ?_
    exact⟨by rw[uh HE],rfl⟩
   have g4:(x.toList == [91])=false:=toList_ne c4
   have HN4:=hde c4
   clear c4
   by_cases c5:x.data.toList=[115,119,97,112]
   ·have g5:(x.toList == [115,119,97,112])=true:=toList_is c5
    have HE:Hid (Sp.tk false x.data.toList=some (2,2)):=by show _=_;unfold Sp.tk;rw[if_neg (uh HN0),if_neg (uh HN1),if_neg (uh HN2),if_neg (uh HN3),if_neg (uh HN4),if_pos c5]
    go_wp2
    refine bodyPost_ret (v:=tkOut (some (2,2))) (by simp[results,Tryz.results158,go_sem,tkOut]) rfl ?_
    exact⟨by rw[uh HE],rfl⟩
   have g5:(x.toList == [115,119,97,112])=false:=toList_ne c5
   have HN5:=hde c5
   clear c5
   by_cases c6:x.data.toList=[111,118,101,114]
   ·have g6:(x.toList == [111,118,101,114])=true:=toList_is c6
    have HE:Hid (Sp.tk false x.data.toList=some (2,3)):=by show _=_;unfold Sp.tk;rw[if_neg (uh HN0),if_neg (uh HN1),if_neg (uh HN2),if_neg (uh HN3),if_neg (uh HN4),if_neg (uh HN5),if_pos c6]
    go_wp2
    refine bodyPost_ret (v:=tkOut (some (2,3))) (by simp[results,Tryz.results158,go_sem,tkOut]) rfl ?_
    exact⟨by rw[uh HE],rfl⟩
   have g6:(x.toList == [111,118,101,114])=false:=toList_ne c6
   have HN6:=hde c6
   clear c6
   by_cases c7:x.data.toList=[63]
   ·have g7:(x.toList == [63])=true:=toList_is c7
    have HE:Hid (Sp.tk false x.data.toList=some (3,1)):=by show _=_;unfold Sp.tk;rw[if_neg (uh HN0),if_neg (uh HN1),if_neg (uh HN2),if_neg (uh HN3),if_neg (uh HN4),if_neg (uh HN5),if_neg (uh HN6),if_pos c7]
    go_wp2
    refine bodyPost_ret (v:=tkOut (some (3,1))) (by simp[results,Tryz.results158,go_sem,tkOut]) rfl ?_
    exact⟨by rw[uh HE],rfl⟩
   have g7:(x.toList == [63])=false:=toList_ne c7
   have HN7:=hde c7
   clear c7
   by_cases c8:x.data.toList=[93]
   ·have g8:(x.toList == [93])=true:=toList_is c8
    have HE:Hid (Sp.tk false x.data.toList=some (0,0)):=by show _=_;unfold Sp.tk;rw[if_neg (uh HN0),if_neg (uh HN1),if_neg (uh HN2),if_neg (uh HN3),if_neg (uh HN4),if_neg (uh HN5),if_neg (uh HN6),if_neg (uh HN7),if_pos c8]
    go_wp2
    refine bodyPost_ret (v:=tkOut (some (0,0))) (by simp[results,Tryz.results158,go_sem,tkOut]) rfl ?_
    exact⟨by rw[uh HE],rfl⟩
   have g8:(x.toList == [93])=false:=toList_ne c8
   have HN8:=hde c8
   clear c8
   have HE:Hid (Sp.tk false x.data.toList=none):=by show _=_;unfold Sp.tk;rw[if_neg (uh HN0),if_neg (uh HN1),if_neg (uh HN2),if_neg (uh HN3),if_neg (uh HN4),if_neg (uh HN5),if_neg (uh HN6),if_neg (uh HN7),if_neg (uh HN8)]
   go_wp2
   refine bodyPost_ret (v:=tkOut (none)) (by simp[results,Tryz.results158,go_sem,tkOut]) rfl ?_
   exact⟨by rw[uh HE],rfl⟩
namespace Sp
def ds (x:List UInt8):Int:=if x=[91] then 1 else if x=[93] then -1 else 0
def clo:List (List UInt8)→Nat→Int→Option Nat
 | [],_,_=>none
 | x :: r,k,d=>if d+ds x=0 then some k else clo r (k+1) (d+ds x)
def cloI:Option Nat→Int
 | some k=>(k:Int)
 | none=>-1
def fmd (wt:Bool):List (List UInt8)→Int→Bool
 | [],d=>decide (d=0)
 | x :: r,d=>if tk wt x=none∨d+ds x < 0 then false else fmd wt r (d+ds x)
theorem ds_bd (x:List UInt8) : -1≤ds x∧ds x≤1:=by unfold ds;split <;> (try split) <;> omega
theorem clo_end {L:List (List UInt8)} {k:Nat} (h:L.length≤k) (d:Int):clo (L.drop k) k d=none:=by rw[List.drop_of_length_le h];rfl
theorem clo_yes {L:List (List UInt8)} {k:Nat} (h:k < L.length) {d:Int} (hd:d+ds L[k]=0):clo (L.drop k) k d=some k:=by
 rw[List.drop_eq_getElem_cons h];simp only[clo,if_pos hd]
theorem clo_no {L:List (List UInt8)} {k:Nat} (h:k < L.length) {d:Int} (hd:¬ d+ds L[k]=0):clo (L.drop k) k d=clo (L.drop (k+1)) (k+1) (d+ds L[k]):=by
 rw[List.drop_eq_getElem_cons h];simp only[clo,if_neg hd]
theorem fmd_end {wt:Bool} {L:List (List UInt8)} {k:Nat} (h:L.length≤k) (d:Int):fmd wt (L.drop k) d=decide (d=0):=by rw[List.drop_of_length_le h];rfl
theorem fmd_no {wt:Bool} {L:List (List UInt8)} {k:Nat} (h:k < L.length) {d:Int} (hd:tk wt L[k]=none∨d+ds L[k] < 0):fmd wt (L.drop k) d=false:=by
 rw[List.drop_eq_getElem_cons h];simp only[fmd,if_pos hd]
theorem fmd_yes {wt:Bool} {L:List (List UInt8)} {k:Nat} (h:k < L.length) {d:Int} (hd:¬ (tk wt L[k]=none∨d+ds L[k] < 0)):fmd wt (L.drop k) d=fmd wt (L.drop (k+1)) (d+ds L[k]):=by
 rw[List.drop_eq_getElem_cons h];simp only[fmd,if_neg hd]
end Sp
def SAt (w:World) (p:Option Addr) (X:List ByteArray):Prop := ∀ j (h:j < X.length),∃ g off,p=some ⟨g,off,none⟩∧g < w.heap.size∧w.cell? ⟨g,off+j,none⟩=some (.string X[j])
theorem SAt.below {w w':World} {p:Option Addr} {X:List ByteArray} (h:SAt w p X) (hb:Below w.heap.size w w'):SAt w' p X:=fun j hj=>by
 obtain⟨g,off,e,h1,h2⟩:=h j hj
 exact⟨g,off,e,Nat.lt_of_lt_of_le h1 hb.size,(hb.cell (p:=⟨g,off+j,none⟩) h1).trans h2⟩
def lst (X:List ByteArray):List (List UInt8):=X.map (·.data.toList)
theorem lst_len (X:List ByteArray):(lst X).length=X.length:=by simp[lst]
theorem lst_get {X:List ByteArray} {k:Nat} (h:k < X.length):(lst X)[k]'(by rw[lst_len];exact h)=X[k].data.toList:=by simp[lst]
theorem closes_any (p:Option Addr) (cap i:Nat) (X:List ByteArray) (w:World) (h:SAt w p X) (hl:X.length≤4000) (hi:i≤X.length):Calls Tryz.prog 159 #[.slice p X.length cap,.int .i64 i] w fun e w' =>
  e = .returned (.int .i64 (Sp.cloI (Sp.clo ((lst X).drop i) i 0)))∧w'=w:=by
 obtain⟨o,HO⟩:∃ o,Hid (Sp.clo ((lst X).drop i) i 0=o):=⟨_,rfl⟩
 rw[uh HO]
 go_enter Tryz.func159,Tryz.ntmps159
 go_wp2
 go_loopw [5,6] (fun a b wr=>∃ (d:Int) (k:Nat),a = .int .i64 d∧b = .int .i64 k∧k≤X.length∧-4000≤d+(k:Int)∧d≤(k:Int)∧-((k:Int))≤d∧wr=w∧Hid (Sp.clo ((lst X).drop k) k d=o)) (fun _ b _=>X.length - (intOf b).toNat)
 case atStart=>exact⟨0,i,rfl,rfl,hi,by omega,by omega,by omega,rfl,HO⟩
 case round =>
  obtain⟨d,k,rfl,rfl,hk,hd1,hd2,hd3,hw,HC⟩:=hrel
  obtain rfl:=hw.symm
  clear hw hd1
  by_cases hlt:k < X.length
  ·have hltz:(k:Int) < (X.length:Int):=by omega
   obtain⟨g,off,rfl,hg1,hg2⟩:=h k hlt
   obtain⟨x,hx⟩:∃ x,X[k]=x:=⟨_,rfl⟩
   rw[hx] at hg2
   have HX:Hid ((lst X)[k]'(by rw[lst_len];exact hlt)=x.data.toList):=by show _=_;rw[lst_get hlt,hx]
   clear hx
   have hkl:k < (lst X).length:=by rw[lst_len];exact hlt
   by_cases c1:x.data.toList=[91]
   ·have g1:(x.toList == [91])=true:=toList_is c1
    have HD:Hid (Sp.ds ((lst X)[k])=1):=by show _=_;rw[uh HX,c1];rfl
    clear c1
    by_cases c0:d+1=0
    ·have g0:((d+1) == 0)=true:=by rw[beq_iff_eq];exact c0
     have HE:Hid (o=some k):=by show _=_;rw[← uh HC,Sp.clo_yes hkl (by rw[uh HD];exact c0)]
     go_wp2
     go_ret
     exact⟨by rw[uh HE];rfl,rfl⟩
    ·have g0:((d+1) == 0)=false:=by rw[beq_eq_false_iff_ne];exact c0
     have HE:Hid (Sp.clo ((lst X).drop (k+1)) (k+1) (d+1)=o):=by show _=_;rw[← uh HC,Sp.clo_no hkl (by rw[uh HD];exact c0),uh HD]
     go_wp2
     go_roundw
     case rel=>exact⟨d+1,k+1,rfl,by go_num,by omega,by omega,by omega,by omega,by trivial,HE⟩
     case measure=>simp[intOf];omega
   ·have g1:(x.toList == [91])=false:=toList_ne c1
    by_cases c2:x.data.toList=[93]
    ·have g2:(x.toList == [93])=true:=toList_is c2
     have HD:Hid (Sp.ds ((lst X)[k]) = -1):=by show _=_;rw[uh HX,c2];rfl
     clear c1 c2
     by_cases c0:d - 1=0
     ·have g0:((d - 1) == 0)=true:=by rw[beq_iff_eq];exact c0
      have HE:Hid (o=some k):=by show _=_;rw[← uh HC,Sp.clo_yes hkl (by rw[uh HD];omega)]
      go_wp2
      go_ret
      exact⟨by rw[uh HE];rfl,rfl⟩
     ·have g0:((d - 1) == 0)=false:=by rw[beq_eq_false_iff_ne];exact c0
      have HE:Hid (Sp.clo ((lst X).drop (k+1)) (k+1) (d - 1)=o):=by show _=_;rw[← uh HC,Sp.clo_no hkl (by rw[uh HD];omega),uh HD];rfl
      go_wp2
      go_roundw
      case rel=>exact⟨d - 1,k+1,rfl,by go_num,by omega,by omega,by omega,by omega,by trivial,HE⟩
      case measure=>simp[intOf];omega
    ·have g2:(x.toList == [93])=false:=toList_ne c2
     have HD:Hid (Sp.ds ((lst X)[k])=0):=by show _=_;rw[uh HX];unfold Sp.ds;rw[if_neg c1,if_neg c2]
     clear c1 c2
     by_cases c0:d=0
     ·have g0:(d == 0)=true:=by rw[beq_iff_eq];exact c0
      have HE:Hid (o=some k):=by show _=_;rw[← uh HC,Sp.clo_yes hkl (by rw[uh HD];omega)]
      go_wp2
      go_ret
      exact⟨by rw[uh HE];rfl,rfl⟩
     ·have g0:(d == 0)=false:=by rw[beq_eq_false_iff_ne];exact c0
      have HE:Hid (Sp.clo ((lst X).drop (k+1)) (k+1) d=o):=by show _=_;rw[← uh HC,Sp.clo_no hkl (by rw[uh HD];omega),uh HD,Int.add_zero]
      go_wp2
      go_roundw
      case rel=>exact⟨d,k+1,rfl,by go_num,by omega,by omega,by omega,by omega,by trivial,HE⟩
      case measure=>simp[intOf];omega
  ·have hltz:¬ (k:Int) < (X.length:Int):=by omega
   have HE:Hid (o=none):=by show _=_;rw[← uh HC,Sp.clo_end (by rw[lst_len];omega)]
   go_wp2
   go_ret
   exact⟨by rw[uh HE];rfl,rfl⟩
def Wds (X:List ByteArray):Prop := ∀ x ∈ X,(32:UInt8) ∉ x.data.toList∧x.size≤4000
theorem tkOut_form (o:Option (Nat × Nat)):∃ n m:Nat,tkOut o = .tuple #[.int .i64 (n:Int),.int .i64 (m:Int),.bool o.isSome]∧(o=none∨o=some (n,m)):=by
 cases o with
 | none=>exact⟨0,0,rfl,Or.inl rfl⟩
 | some nm=>obtain⟨n,m⟩:=nm;exact⟨n,m,rfl,Or.inr rfl⟩
theorem formed_any (p:Option Addr) (cap:Nat) (wt:Bool) (X:List ByteArray) (w:World) (h:SAt w p X) (hl:X.length≤4000) (hW:Wds X):Calls Tryz.prog 109 #[.slice p X.length cap,.bool wt] w fun e w' =>
  e = .returned (.bool (Sp.fmd wt (lst X) 0 && !X.isEmpty))∧w'=w:=by
 obtain⟨o,HO⟩:∃ o,Hid (Sp.fmd wt ((lst X).drop 0) 0=o):=⟨_,rfl⟩
 have HO':=HO
 rw[List.drop_zero] at HO'
 rw[uh HO']
 clear HO'
 go_enter Tryz.func109,Tryz.ntmps109
 go_wp2
 go_loopw [5,6] (fun a b wr=>∃ (d:Int) (k:Nat),a = .int .i64 d∧b = .int .i64 k∧k≤X.length∧d≤(k:Int)∧0≤d∧wr=w∧Hid (Sp.fmd wt ((lst X).drop k) d=o)) (fun _ b _=>X.length - (intOf b).toNat)
 case atStart=>exact⟨0,0,rfl,rfl,by omega,by omega,by omega,rfl,HO⟩
 case round =>
  obtain⟨d,k,rfl,rfl,hk,hd2,hd3,hw,HC⟩:=hrel
  obtain rfl:=hw.symm
  clear hw
  by_cases hlt:k < X.length
  ·have hltz:(k:Int) < (X.length:Int):=by omega
   obtain⟨g,off,rfl,hg1,hg2⟩:=h k hlt
   have hwd:=hW X[k] (List.getElem_mem hlt)
   obtain⟨x,hx⟩:∃ x,X[k]=x:=⟨_,rfl⟩
   rw[hx] at hg2 hwd
   have HX:Hid ((lst X)[k]'(by rw[lst_len];exact hlt)=x.data.toList):=by show _=_;rw[lst_get hlt,hx]
   clear hx
   have hkl:k < (lst X).length:=by rw[lst_len];exact hlt
   obtain⟨tn,tm,hto,hto2⟩:=tkOut_form (Sp.tk wt x.data.toList)
   obtain⟨ok,hok⟩:∃ ok,(Sp.tk wt x.data.toList).isSome=ok:=⟨_,rfl⟩
   rw[hok] at hto
   have HTO:=hde hto
   have HOK:Hid (ok=true↔¬ Sp.tk wt ((lst X)[k])=none):=by
    show _↔_
    rw[uh HX,← hok]
    cases Sp.tk wt x.data.toList <;> simp
   clear hto hto2 hok
   go_upto_region 6 with (go_at_call 158;refine(takes_any x wt _ hwd.2 hwd.1).mono ?_;rintro e w1 ⟨rfl,hw1⟩;obtain rfl:=hw1.symm;rw[uh HTO])
   obtain⟨d2,HD2⟩:∃ d2:Int,Hid (d2=d+Sp.ds ((lst X)[k])):=⟨d+Sp.ds ((lst X)[k]),rfl⟩
   have hdb:=Sp.ds_bd ((lst X)[k])
   have hd4:d2≤(k:Int)+1∧-1≤d2:=by have:=uh HD2;omega
   by_cases c1:x.data.toList=[91]
   ·have g1:(x.toList == [91])=true:=toList_is c1
    have HD:Hid (Sp.ds ((lst X)[k])=1):=by show _=_;rw[uh HX,c1];rfl
    clear c1
    have HV:Hid (d2=d+1):=by show _=_;rw[uh HD2,uh HD]
    cases ok with
    | false =>
     have HE:Hid (o=false):=by
      show _=_
      have hn:Sp.tk wt ((lst X)[k])=none:=Classical.byContradiction (fun hc=>by have:=(uh HOK).2 hc;cases this)
      rw[← uh HC,Sp.fmd_no hkl (Or.inl hn)]
     go_wp2
     go_ret
     exact⟨by rw[uh HE];rfl,rfl⟩
    | true =>
     have hsome:¬ Sp.tk wt ((lst X)[k])=none:=(uh HOK).1 rfl
     have HSM:=hde hsome
     clear hsome
     by_cases c0:d+1 < 0
     ·have HE:Hid (o=false):=by show _=_;rw[← uh HC,Sp.fmd_no hkl (Or.inr (by rw[← uh HD2,uh HV];exact c0))]
      go_wp2
      go_ret
      exact⟨by rw[uh HE];rfl,rfl⟩
     ·have HE:Hid (Sp.fmd wt ((lst X).drop (k+1)) (d+1)=o):=by
       show _=_
       rw[← uh HC,Sp.fmd_yes hkl (fun hc=>hc.elim (uh HSM) (fun hc=>c0 (by rw[← uh HD2,uh HV] at hc;exact hc))),← uh HD2,uh HV]
      go_wp2
      go_roundw
      case rel=>exact⟨d+1,k+1,rfl,by go_num,by omega,by omega,by omega,by trivial,HE⟩
      case measure=>simp[intOf];omega
   ·have g1:(x.toList == [91])=false:=toList_ne c1
    by_cases c2:x.data.toList=[93]
    ·have g2:(x.toList == [93])=true:=toList_is c2
     have HD:Hid (Sp.ds ((lst X)[k]) = -1):=by show _=_;rw[uh HX,c2];rfl
     clear c1 c2
     have HV:Hid (d2=d - 1):=by show _=_;rw[uh HD2,uh HD];rfl
     cases ok with
     | false =>
      have HE:Hid (o=false):=by
       show _=_
       have hn:Sp.tk wt ((lst X)[k])=none:=Classical.byContradiction (fun hc=>by have:=(uh HOK).2 hc;cases this)
       rw[← uh HC,Sp.fmd_no hkl (Or.inl hn)]
      go_wp2
      go_ret
      exact⟨by rw[uh HE];rfl,rfl⟩
     | true =>
      have hsome:¬ Sp.tk wt ((lst X)[k])=none:=(uh HOK).1 rfl
      have HSM:=hde hsome
      clear hsome
      by_cases c0:d - 1 < 0
      ·have HE:Hid (o=false):=by show _=_;rw[← uh HC,Sp.fmd_no hkl (Or.inr (by rw[← uh HD2,uh HV];exact c0))]
       go_wp2
       go_ret
       exact⟨by rw[uh HE];rfl,rfl⟩
      ·have HE:Hid (Sp.fmd wt ((lst X).drop (k+1)) (d - 1)=o):=by
        show _=_
        rw[← uh HC,Sp.fmd_yes hkl (fun hc=>hc.elim (uh HSM) (fun hc=>c0 (by rw[← uh HD2,uh HV] at hc;exact hc))),← uh HD2,uh HV]
       go_wp2
       go_roundw
       case rel=>exact⟨d - 1,k+1,rfl,by go_num,by omega,by omega,by omega,by trivial,HE⟩
       case measure=>simp[intOf];omega
    ·have g2:(x.toList == [93])=false:=toList_ne c2
     have HD:Hid (Sp.ds ((lst X)[k])=0):=by show _=_;rw[uh HX];unfold Sp.ds;rw[if_neg c1,if_neg c2]
     clear c1 c2
     have HV:Hid (d2=d):=by show _=_;rw[uh HD2,uh HD];exact Int.add_zero d
     cases ok with
     | false =>
      have HE:Hid (o=false):=by
       show _=_
       have hn:Sp.tk wt ((lst X)[k])=none:=Classical.byContradiction (fun hc=>by have:=(uh HOK).2 hc;cases this)
       rw[← uh HC,Sp.fmd_no hkl (Or.inl hn)]
      go_wp2
      go_ret
      exact⟨by rw[uh HE];rfl,rfl⟩
     | true =>
      have hsome:¬ Sp.tk wt ((lst X)[k])=none:=(uh HOK).1 rfl
      have HSM:=hde hsome
      clear hsome
      by_cases c0:d < 0
      ·have HE:Hid (o=false):=by show _=_;rw[← uh HC,Sp.fmd_no hkl (Or.inr (by rw[← uh HD2,uh HV];exact c0))]
       go_wp2
       go_ret
       exact⟨by rw[uh HE];rfl,rfl⟩
      ·have HE:Hid (Sp.fmd wt ((lst X).drop (k+1)) (d)=o):=by
        show _=_
        rw[← uh HC,Sp.fmd_yes hkl (fun hc=>hc.elim (uh HSM) (fun hc=>c0 (by rw[← uh HD2,uh HV] at hc;exact hc))),← uh HD2,uh HV]
       go_wp2
       go_roundw
       case rel=>exact⟨d,k+1,rfl,by go_num,by omega,by omega,by omega,by trivial,HE⟩
       case measure=>simp[intOf];omega
  ·have hltz:¬ (k:Int) < (X.length:Int):=by omega
   have HE:Hid (o=decide (d=0)):=by show _=_;rw[← uh HC,Sp.fmd_end (by rw[lst_len];omega)]
   by_cases c0:d=0
   ·have g0:(d == 0)=true:=by rw[beq_iff_eq];exact c0
    by_cases c1:0 < X.length
    ·have c1z:(0:Int) < (X.length:Int):=by omega
     have HXE:Hid (X.isEmpty=false):=by show _=_;cases X with | nil=>simp at c1 | cons a b=>rfl
     have HO1:Hid (o=true):=by show _=_;rw[uh HE,decide_eq_true c0]
     go_wp2
     go_ret
     exact⟨by rw[uh HO1,uh HXE];rfl,rfl⟩
    ·have c1z:¬ (0:Int) < (X.length:Int):=by omega
     have HXE:Hid (X.isEmpty=true):=by show _=_;cases X with | nil=>rfl | cons a b=>simp at c1
     have HO1:Hid (o=true):=by show _=_;rw[uh HE,decide_eq_true c0]
     go_wp2
     go_ret
     exact⟨by rw[uh HO1,uh HXE];rfl,rfl⟩
   ·have g0:(d == 0)=false:=by rw[beq_eq_false_iff_ne];exact c0
    have HO1:Hid (o=false):=by show _=_;rw[uh HE,decide_eq_false c0]
    go_wp2
    go_ret
    exact⟨by rw[uh HO1];rfl,rfl⟩
end Go.Proofs.YteflnddphpjahaaGreatDoor
