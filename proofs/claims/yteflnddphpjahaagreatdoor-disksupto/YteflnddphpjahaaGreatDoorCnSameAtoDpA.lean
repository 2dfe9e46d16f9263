import Derived.Test.YteflnddphpjahaaGreatDoorCnRefI
import Derived.Outline
import Derived.Deep.DeepMust
import Derived.Deep.QuietTactic
import Derived.BigQuiet
import Derived.Test.YteflnddphpjahaaGreatDoorCnPlAtoCom
import Derived.Test.YteflnddphpjahaaGreatDoorCnRefEtoRefD
import Derived.Deep.RegionHeld3
import Derived.Test.YteflnddphpjahaaGreatDoorCnShelf
import Derived.Test.YteflnddphpjahaaGreatDoorCnRefFtoGMem
import Derived.Laws.IdiomStrings
import Derived.Laws.OwnMore
import Derived.Test.YteflnddphpjahaaGreatDoorRows
import Derived.ProofKit
import Derived.PinnedBridge
import Derived.Lay
import Derived.LaidOnce
import Derived.LaidMore
import Derived.HandedShaped
import Derived.Lib.LaidU8T
import Derived.OpenShut
import Derived.ShutString
import GoSem.Op.String
import Derived.WalkKit
set_option linter.unusedVariables false
set_option linter.unusedSimpArgs false
set_option maxRecDepth 100000
set_option maxHeartbeats 16000000
namespace Go.Proofs.YteflnddphpjahaaGreatDoor
open Go.RowKit
def IntsAt (w:World) (k:IntKind) (p:Option Addr) (V:List Int):Prop := ∀ j (h:j < V.length),∃ g,p=some ⟨g,0,none⟩∧g < w.heap.size∧w.cell? ⟨g,j,none⟩=some (.int k V[j])
theorem IntsAt.below {w w':World} {k:IntKind} {p:Option Addr} {V:List Int} (h:IntsAt w k p V) (hb:Below w.heap.size w w'):IntsAt w' k p V:=fun j hj=>by
 obtain⟨g,a,b,c⟩:=h j hj
 have:=hb.size
 exact⟨g,a,by omega,(hb.cell (p:=⟨g,j,none⟩) b).trans c⟩
def EdgesAt (w:World) (p:Option Addr) (E:List Sp.Ed):Prop := ∀ j (h:j < E.length),∃ g,p=some ⟨g,0,none⟩∧g < w.heap.size∧w.cell? ⟨g,j * 3,none⟩=some (.int .i64 (E[j].frm:Int))∧w.cell? ⟨g,j * 3+1,none⟩=some (.int .i64 (E[j].to:Int))∧w.cell? ⟨g,j * 3+2,none⟩=some (.int .i64 E[j].n)
theorem EdgesAt.below {w w':World} {p:Option Addr} {E:List Sp.Ed} (h:EdgesAt w p E) (hb:Below w.heap.size w w'):EdgesAt w' p E:=fun j hj=>by
 obtain⟨g,a,b,c0,c1,c2⟩:=h j hj
 have:=hb.size
 exact⟨g,a,by omega,(hb.cell (p:=⟨g,_,none⟩) b).trans c0,(hb.cell (p:=⟨g,_,none⟩) b).trans c1,(hb.cell (p:=⟨g,_,none⟩) b).trans c2⟩
def nameB (r:Int):Bool:=decide (¬ (r=32∨r=62))
theorem isName_any (r:Int) (w:World):Calls Tryz.prog 245 #[.int .i32 r] w fun e w'=>e = .returned (.bool (nameB r))∧w'=w:=by
 by_cases h1:r=32
 ·have e1:nameB r=false:=by simp[nameB,h1]
  have g1:(r != 32)=false:=by simp[h1]
  rw[e1]
  clear h1 e1
  go_enter Tryz.func245,Tryz.ntmps245
  go_wp2
  go_ret
  exact⟨rfl,rfl⟩
 ·have g1:(r != 32)=true:=by simp[h1]
  by_cases h2:r=62
  ·have e1:nameB r=false:=by simp[nameB,h2]
   have g2:(r != 62)=false:=by simp[h2]
   rw[e1]
   clear h1 h2 e1
   go_enter Tryz.func245,Tryz.ntmps245
   go_wp2
   go_ret
   exact⟨rfl,rfl⟩
  ·have e1:nameB r=true:=by simp[nameB,h1,h2]
   have g2:(r != 62)=true:=by simp[h2]
   rw[e1]
   clear h1 h2 e1
   go_enter Tryz.func245,Tryz.ntmps245
   go_wp2
   go_ret
   exact⟨rfl,rfl⟩
end Go.Proofs.YteflnddphpjahaaGreatDoor
namespace Go.Proofs.YteflnddphpjahaaGreatDoor.Sp
open Go
def says (P:List (Option Ln)):List Ln:=P.filterMap id
def pk (p:Option Ln):Int:=match p with | none=>0 | some l=>if l.edge=true then 2 else 1
def pb (p:Option Ln):Int:=match p with | none=>0 | some l=>if l.edge=true then l.to else 0
end Go.Proofs.YteflnddphpjahaaGreatDoor.Sp
namespace Go.Proofs.YteflnddphpjahaaGreatDoor
open Go.RowKit
theorem Tryz.info_pline:(Tryz.prog.info? 238).map (fun i=>(i.zero,i.size,i.bytes))=some (some (.agg #[.int .i64 0,.int .i32 0,.int .i32 0,.int .i64 0]),4,24):=by kernel_rfl
open Go.RowKit Go.Shelf Go.Lib
theorem handed {H:Type} {enc:TypeId × Value→H} {a:Assume} {C:Checked} {os:Os} {f:FuncId} {fn:Func} {s:ChangeSpec} {conds:List PathCond} {apart fresh handsOn again:Bool} {X:World→Array Value→Prop}
  (hX:∀ (w w':World) (args:Array Value),w.heap=w'.heap→X w args→X w' args)
  (own:ownKnob C.prog.godebug=none) (started:os.Started) (noInit:C.prog.inits.idxOf? f=none) (hfn:C.prog.funcs[f]? = some fn)
  (witness:∃ (w:World) (tape:Tape) (i:Input),w.os=os∧(w.forCall tape i).Shaped C.prog∧i.vars=[]∧Input.okWide C.prog (w.forCall tape i) .any w.heap.size f i ∧
    ((s.pre enc C.prog fn conds apart (w.forCall tape i).memory i.args∧X (w.forCall tape i).memory i.args)∧sizedMet enc C.prog fn (OpenSpec.ofChange s) apart (w.forCall tape i).memory i.args)∧a.holds C.prog (lone (Frame.enter C.prog f i.args .normal) [] (w.forCall tape i)))
  (contract:∀ (W:World) (base:Nat) (args:Array Value) (ds gs:List (DataW H)) (before:List MemPlace),
    (∀ (j:Nat) t v,fn.params[j]? = some t→args[j]? = some v→Value.okWide C.prog W .any base t v) →
    DataW.Whole enc C.prog fn.params.toList s.vars apart W args.toList ds gs before→W.ShapedOpen C.prog→X W args →
    Calls C.prog f args W fun e W'=>∃ v,e = .returned v∧s.post enc C.prog fn apart fresh handsOn again W args v W') :
  ReturnsInHanded a C os f .any (fun w args=>(s.pre enc C.prog fn conds apart w args∧X w args)∧sizedMet enc C.prog fn (OpenSpec.ofChange s) apart w args) (s.post enc C.prog fn apart fresh handsOn again):=by
 refine returnsInHanded_of_calls own started noInit witness ?_
 intro w tape i _ hsh _ hok hpre _
 obtain⟨_,_,_,fn',hfn',_,_,_,_,hval⟩:=hok
 obtain rfl:fn'=fn:=Option.some.inj (hfn'.symm.trans hfn)
 obtain⟨⟨⟨ds,gs,before,hw,_⟩,hx⟩,_⟩:=hpre
 refine(contract (w.forCall tape i) w.heap.size i.args ds gs before hval (DataW.Whole.of_heap (w':=w.forCall tape i) (by rfl) hw) hsh (hX _ _ _ (by rfl) hx)).mono fun e W' ⟨v,he,hp⟩=>?_
 subst he
 exact ChangeSpec.post_blind hp
theorem own:ownKnob Tryz.prog.godebug=none:=by kernel_rfl
end Go.Proofs.YteflnddphpjahaaGreatDoor
namespace Go.Proofs.YteflnddphpjahaaGreatDoor.Sd
open Go
theorem bl_irrefl:∀ l:List UInt8,Op.bytesLess l l=false
 | []=>rfl
 | a :: l=>by simp[Op.bytesLess,bl_irrefl l]
theorem bl_trans:∀ a b c:List UInt8,Op.bytesLess a b=true→Op.bytesLess b c=true→Op.bytesLess a c=true
 | _,[],_,h,_=>by cases ‹List UInt8› <;> simp[Op.bytesLess] at h
 | _,_ :: _,[],_,h=>by simp[Op.bytesLess] at h
 | [],_ :: _,_ :: _,_,_=>rfl
 | a :: x,b :: y,c :: z,h1,h2=>by
  simp only[Op.bytesLess,Bool.or_eq_true,Bool.and_eq_true,decide_eq_true_iff,beq_iff_eq] at h1 h2 ⊢
  rcases h1 with h1 | ⟨rfl,h1⟩
  ·rcases h2 with h2 | ⟨rfl,h2⟩
   ·exact Or.inl (UInt8.lt_trans h1 h2)
   ·exact Or.inl h1
  ·rcases h2 with h2 | ⟨rfl,h2⟩
   ·exact Or.inl h2
   ·exact Or.inr ⟨rfl,bl_trans x y z h1 h2⟩
theorem bl_tri:∀ a b:List UInt8,Op.bytesLess a b=true∨a=b∨Op.bytesLess b a=true
 | [],[]=>Or.inr (Or.inl rfl)
 | [],_ :: _=>Or.inl rfl
 | _ :: _,[]=>Or.inr (Or.inr rfl)
 | a :: x,b :: y=>by
  simp only[Op.bytesLess,Bool.or_eq_true,Bool.and_eq_true,decide_eq_true_iff,beq_iff_eq,List.cons.injEq]
  rcases Nat.lt_trichotomy a.toNat b.toNat with h | h | h
  ·exact Or.inl (Or.inl h)
  ·have e:a=b:=UInt8.toNat_inj.1 h
   subst e
   rcases bl_tri x y with g | g | g
   ·exact Or.inl (Or.inr ⟨rfl,g⟩)
   ·exact Or.inr (Or.inl ⟨rfl,g⟩)
   ·exact Or.inr (Or.inr (Or.inr ⟨rfl,g⟩))
  ·exact Or.inr (Or.inr (Or.inl h))
def lt (a b:ByteArray):Bool:=Op.bytesLess a.toList b.toList
theorem lt_irrefl (a:ByteArray):lt a a=false:=bl_irrefl _
theorem lt_trans {a b c:ByteArray} (h1:lt a b=true) (h2:lt b c=true):lt a c=true:=bl_trans _ _ _ h1 h2
theorem toList_inj {a b:ByteArray} (h:a.toList=b.toList):a=b:=by
 rw[ByteArray.toList_eq,ByteArray.toList_eq] at h
 exact ByteArray.ext (Array.toList_inj.1 h)
theorem lt_tri (a b:ByteArray):lt a b=true∨a=b∨lt b a=true:=by
 rcases bl_tri a.toList b.toList with h | h | h
 ·exact Or.inl h
 ·exact Or.inr (Or.inl (toList_inj h))
 ·exact Or.inr (Or.inr h)
theorem lt_asymm {a b:ByteArray} (h:lt a b=true):lt b a=false:=by
 cases hb:lt b a with
 | false=>rfl
 | true=>have:=lt_trans h hb;rw[lt_irrefl] at this;cases this
theorem lt_ne {a b:ByteArray} (h:lt a b=true):¬ a=b:=fun e=>by subst e;rw[lt_irrefl] at h;cases h
theorem le_of {a b:ByteArray} (h:lt a b=false):b=a∨lt b a=true:=by
 rcases lt_tri a b with g | g | g
 ·rw[g] at h;cases h
 ·exact Or.inl g.symm
 ·exact Or.inr g
theorem lt_of_le {a b c:ByteArray} (h1:lt b a=false) (h2:lt b c=true):lt a c=true:=by
 rcases le_of h1 with e | g
 ·subst e;exact h2
 ·exact lt_trans g h2
abbrev Tb:=List (ByteArray × Nat)
def tlow (T:Tb) (a:ByteArray):Nat:=(T.filter fun p=>lt p.1 a).length
def thas (T:Tb) (a:ByteArray):Bool:=T.any fun p=>decide (p.1=a)
def tsorted (T:Tb):Prop:=T.Pairwise fun p q=>lt p.1 q.1=true
def tins (T:Tb) (a:ByteArray) (v:Nat):Tb:=T.take (tlow T a)++(a,v) :: T.drop (tlow T a)
theorem tlow_le (T:Tb) (a:ByteArray):tlow T a≤T.length:=List.length_filter_le _ _
theorem tlow_split (A B:Tb) (a:ByteArray) (hA:∀ p ∈ A,lt p.1 a=true) (hB:∀ p ∈ B,lt p.1 a=false):tlow (A++B) a=A.length:=by
 unfold tlow
 rw[List.filter_append,List.filter_eq_self.2 (fun p hp=>hA p hp),List.filter_eq_nil_iff.2 (fun p hp=>by rw[hB p hp];decide)]
 simp
theorem tlow_at {T:Tb} {i:Nat} {a:ByteArray} (hi:i≤T.length) (h1:∀ j (h:j < T.length),j < i→lt (T[j]).1 a=true) (h2:∀ j (h:j < T.length),i≤j→lt (T[j]).1 a=false):tlow T a=i:=by
 have e:=List.take_append_drop i T
 rw[← e,tlow_split]
 ·simp;omega
 ·intro p hp
  obtain⟨j,hj,rfl⟩:=List.mem_iff_getElem.1 hp
  simp at hj ⊢
  exact h1 j (by omega) (by omega)
 ·intro p hp
  obtain⟨j,hj,rfl⟩:=List.mem_iff_getElem.1 hp
  simp at hj ⊢
  exact h2 (i+j) (by omega) (by omega)
theorem tsorted_lt {T:Tb} (h:tsorted T) {i j:Nat} (hij:i < j) (hj:j < T.length):lt (T[i]'(by omega)).1 (T[j]).1=true:=List.pairwise_iff_getElem.1 h i j (by omega) hj hij
theorem tsorted_le {T:Tb} (h:tsorted T) {i j:Nat} (hij:i≤j) (hj:j < T.length):lt (T[j]).1 (T[i]'(by omega)).1=false:=by
 rcases Nat.lt_or_eq_of_le hij with hl | rfl
 ·exact lt_asymm (tsorted_lt h hl hj)
 ·exact lt_irrefl _
theorem tlow_sorted {T:Tb} (h:tsorted T) (a:ByteArray):(∀ j (hj:j < T.length),j < tlow T a↔lt (T[j]).1 a=true):=by
 induction T with
 | nil=>intro j hj;simp at hj
 | cons p t ih =>
  have ht:tsorted t:=(List.pairwise_cons.1 h).2
  have hp:=(List.pairwise_cons.1 h).1
  intro j hj
  cases hpa:lt p.1 a with
  | true =>
   have e:tlow (p :: t) a=tlow t a+1:=by unfold tlow;rw[List.filter_cons,if_pos hpa];rfl
   rw[e]
   cases j with
   | zero=>simp[hpa]
   | succ j=>simpa using ih ht j (by simpa using hj)
  | false =>
   have e:tlow (p :: t) a=0:=by
    have:=tlow_split [] (p :: t) a (by simp) (by
     intro q hq
     rcases List.mem_cons.1 hq with rfl | hq
     ·exact hpa
     ·cases hqa:lt q.1 a with
      | false=>rfl
      | true=>have:=lt_trans (hp q hq) hqa;rw[this] at hpa;cases hpa)
    simpa using this
   rw[e]
   constructor
   ·intro hh;omega
   ·intro hh
    exfalso
    cases j with
    | zero=>simp at hh;rw[hh] at hpa;cases hpa
    | succ j=>have h1:=hp (t[j]'(by simpa using hj)) (List.getElem_mem _);simp at hh;have:=lt_trans h1 hh;rw[this] at hpa;cases hpa
theorem thas_mem {T:Tb} {a:ByteArray}:thas T a=true↔∃ v,(a,v) ∈ T:=by
 unfold thas
 rw[List.any_eq_true]
 constructor
 ·rintro⟨p,hp,he⟩
  have:p.1=a:=by simpa using he
  exact⟨p.2,by rw[← this];exact hp⟩
 ·rintro⟨v,hv⟩
  exact⟨(a,v),hv,by simp⟩
theorem thas_at {T:Tb} (h:tsorted T) (a:ByteArray):thas T a=true↔∃ hj:tlow T a < T.length,(T[tlow T a]).1=a:=by
 constructor
 ·intro ht
  obtain⟨p,hp,he⟩:=List.any_eq_true.1 ht
  obtain⟨j,hj,rfl⟩:=List.mem_iff_getElem.1 hp
  have he:(T[j]).1=a:=by simpa using he
  have hjl:tlow T a=j:=tlow_at (by omega) (fun i hi hij=>by have:=tsorted_lt h hij hj;rw[he] at this;exact this) (fun i hi hij=>by have:=tsorted_le h hij hi;rw[he] at this;exact this)
  rw[hjl];exact⟨hj,he⟩
 ·rintro⟨hj,he⟩
  exact List.any_eq_true.2 ⟨T[tlow T a],List.getElem_mem _,by simpa using he⟩
theorem tins_sorted {T:Tb} (h:tsorted T) {a:ByteArray} {v:Nat} (hn:thas T a=false):tsorted (tins T a v):=by
 have hl:=tlow_sorted h a
 unfold tins tsorted
 rw[List.pairwise_append]
 refine⟨h.sublist (List.take_sublist _ _),List.pairwise_cons.2 ⟨?_,h.sublist (List.drop_sublist _ _)⟩,?_⟩
 ·intro q hq
  obtain⟨j,hj,rfl⟩:=List.mem_iff_getElem.1 hq
  simp at hj ⊢
  have h1:=not_congr (hl (tlow T a+j) (by omega))
  have h2:¬ (T[tlow T a+j]).1=a:=by
   intro e
   have:thas T a=true:=List.any_eq_true.2 ⟨T[tlow T a+j],List.getElem_mem _,by simpa using e⟩
   rw[this] at hn;cases hn
  have h3:=h1.1 (by omega)
  rcases lt_tri (T[tlow T a+j]).1 a with g | g | g
  ·exact absurd g h3
  ·exact absurd g h2
  ·exact g
 ·intro p hp q hq
  obtain⟨i,hi,rfl⟩:=List.mem_iff_getElem.1 hp
  have hi':i < tlow T a∧i < T.length:=by rw[List.length_take] at hi;omega
  have h1:=(hl i hi'.2).1 hi'.1
  rcases List.mem_cons.1 hq with rfl | hq
  ·simpa using h1
  ·obtain⟨j,hj,rfl⟩:=List.mem_iff_getElem.1 hq
   simp at hj ⊢
   exact tsorted_lt h (by omega) (by omega)
theorem tins_len (T:Tb) (a:ByteArray) (v:Nat):(tins T a v).length=T.length+1:=by
 have:=tlow_le T a
 simp[tins];omega
theorem tins_mem {T:Tb} {a:ByteArray} {v:Nat} {p:ByteArray × Nat}:p ∈ tins T a v↔p=(a,v)∨p ∈ T:=by
 have e:=List.take_append_drop (tlow T a) T
 constructor
 ·intro h
  rcases List.mem_append.1 h with h | h
  ·exact Or.inr (List.mem_of_mem_take h)
  ·rcases List.mem_cons.1 h with h | h
   ·exact Or.inl h
   ·exact Or.inr (List.mem_of_mem_drop h)
 ·intro h
  rcases h with h | h
  ·exact List.mem_append.2 (Or.inr (List.mem_cons.2 (Or.inl h)))
  ·rw[← e] at h
   rcases List.mem_append.1 h with h | h
   ·exact List.mem_append.2 (Or.inl h)
   ·exact List.mem_append.2 (Or.inr (List.mem_cons.2 (Or.inr h)))
def tget (T:Tb) (a:ByteArray):Option Nat:=if thas T a=true then (T[tlow T a]?).map (·.2) else none
theorem tget_none {T:Tb} {a:ByteArray} (h:thas T a=false):tget T a=none:=by unfold tget;rw[h];rfl
theorem tget_at {T:Tb} (hT:tsorted T) {a:ByteArray} (h:thas T a=true):∃ hj:tlow T a < T.length,(T[tlow T a]).1=a∧tget T a=some (T[tlow T a]).2:=by
 obtain⟨hj,he⟩:=(thas_at hT a).1 h
 refine⟨hj,he,?_⟩
 unfold tget
 rw[if_pos h,List.getElem?_eq_getElem hj];rfl
theorem tget_mem {T:Tb} (hT:tsorted T) {a:ByteArray} {v:Nat}:tget T a=some v↔(a,v) ∈ T:=by
 constructor
 ·intro h
  cases hh:thas T a with
  | false=>rw[tget_none hh] at h;cases h
  | true =>
   obtain⟨hj,e1,e2⟩:=tget_at hT hh
   rw[h] at e2
   have e2:v=(T[tlow T a]).2:=Option.some.inj e2
   have:(a,v)=T[tlow T a]:=by rw[e2];exact Prod.ext e1.symm rfl
   rw[this];exact List.getElem_mem _
 ·intro h
  have hh:thas T a=true:=thas_mem.2 ⟨v,h⟩
  obtain⟨hj,e1,e2⟩:=tget_at hT hh
  rw[e2]
  obtain⟨j,hj2,e3⟩:=List.mem_iff_getElem.1 h
  have ej:tlow T a=j:=tlow_at (by omega) (fun i hi hij=>by have:=tsorted_lt hT hij hj2;rw[e3] at this;exact this) (fun i hi hij=>by have:=tsorted_le hT hij hi;rw[e3] at this;exact this)
  have:T[tlow T a]=T[j]:=by congr 1
  rw[this,e3]
def tset (T:Tb) (a:ByteArray) (v:Nat):Tb:=if thas T a=true then T.set (tlow T a) (a,v) else tins T a v
def trem (T:Tb) (a:ByteArray):Tb:=if thas T a=true then T.eraseIdx (tlow T a) else T
theorem trem_sorted {T:Tb} (h:tsorted T) (a:ByteArray):tsorted (trem T a):=by
 unfold trem;split
 ·exact h.sublist (List.eraseIdx_sublist _ _)
 ·exact h
theorem trem_mem {T:Tb} {a:ByteArray} {p:ByteArray × Nat} (h:p ∈ trem T a):p ∈ T:=by
 unfold trem at h;split at h
 ·exact List.mem_of_mem_eraseIdx h
 ·exact h
theorem tset_mem {T:Tb} {a:ByteArray} {v:Nat} {p:ByteArray × Nat} (h:p ∈ tset T a v):p=(a,v)∨p ∈ T:=by
 unfold tset at h;split at h
 ·rcases List.mem_or_eq_of_mem_set h with h | h
  ·exact Or.inr h
  ·exact Or.inl h
 ·exact tins_mem.1 h
theorem tset_len (T:Tb) (a:ByteArray) (v:Nat):(tset T a v).length≤T.length+1:=by
 unfold tset;split
 ·rw[List.length_set];omega
 ·rw[tins_len];omega
theorem trem_len (T:Tb) (a:ByteArray):(trem T a).length≤T.length:=by
 unfold trem;split
 ·rw[List.length_eraseIdx];split <;> omega
 ·omega
theorem tset_sorted {T:Tb} (h:tsorted T) (a:ByteArray) (v:Nat):tsorted (tset T a v):=by
 unfold tset
 cases hh:thas T a with
 | false=>exact tins_sorted h hh
 | true =>
  rw[if_pos rfl]
  obtain⟨hj,e1,_⟩:=tget_at h hh
  apply List.pairwise_iff_getElem.2
  intro i j hi hj2 hij
  rw[List.length_set] at hi hj2
  have h0:=tsorted_lt h hij hj2
  rw[List.getElem_set,List.getElem_set]
  split
  ·rename_i e
   subst e
   split
   ·omega
   ·rw[e1] at h0;exact h0
  ·split
   ·rename_i e
    subst e
    rw[e1] at h0;exact h0
   ·exact h0
end Go.Proofs.YteflnddphpjahaaGreatDoor.Sd
