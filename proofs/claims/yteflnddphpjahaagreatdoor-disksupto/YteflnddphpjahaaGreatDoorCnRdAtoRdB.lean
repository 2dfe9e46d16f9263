import Derived.Test.YteflnddphpjahaaGreatDoorCnSameAtoDpA
import Derived.Test.YteflnddphpjahaaGreatDoorProg
import Derived.Test.YteflnddphpjahaaGreatDoorCnRefFtoGMem
import Derived.WalkKit
import Derived.Deep.AppendLies
set_option linter.unusedVariables false
set_option linter.unusedSimpArgs false
set_option maxRecDepth 100000
set_option maxHeartbeats 16000000
namespace Go.Proofs.YteflnddphpjahaaGreatDoor.Rd
open Go Sd
structure Fl where
 bytes:ByteArray
 safe:Nat
structure Ch where
 goes:ByteArray
 comes:ByteArray
 file:Nat
structure Rk where
 files:List Fl
 safe:Tb
 chs:List Ch
 limit:Int
 left:Int
 down:Bool
def e0:ByteArray:=⟨#[]⟩
def wo (L:Tb) (a:ByteArray):Tb:=L.filter fun p=>!decide (p.1=a)
def ap (L:Tb) (c:Ch):Tb:=if c.comes=e0 then wo (wo L c.goes) c.comes else wo (wo L c.goes) c.comes++[(c.comes,c.file)]
def Rk.dir (R:Rk) (n:Nat):Tb:=(R.chs.take n).foldl ap (wo R.safe e0)
def Rk.now (R:Rk):Tb:=R.dir R.chs.length
def rget (L:Tb) (a:ByteArray):Option Nat:=(L.find? fun p=>decide (p.1=a)).map (·.2)
def keyed (L:Tb):Prop:=L.Pairwise fun p q=>¬ p.1=q.1
def tab:Tb→Tb
 | []=>[]
 | p :: L=>tset (tab L) p.1 p.2
theorem tab_sorted:∀ L,tsorted (tab L)
 | []=>List.Pairwise.nil
 | p :: L=>tset_sorted (tab_sorted L) p.1 p.2
theorem mem_uniq {T:Tb} (hT:tsorted T) {a:ByteArray} {u v:Nat} (h1:(a,u) ∈ T) (h2:(a,v) ∈ T):u=v :=
 Option.some.inj (((tget_mem hT).2 h1).symm.trans ((tget_mem hT).2 h2))
theorem tset_mem_iff {T:Tb} (hT:tsorted T) {a y:ByteArray} {u v:Nat}:(y,u) ∈ tset T a v↔(y=a∧u=v)∨(¬ y=a∧(y,u) ∈ T):=by
 have hin:(a,v) ∈ tset T a v:=by
  unfold tset
  cases hh:thas T a with
  | false=>exact tins_mem.2 (Or.inl rfl)
  | true =>
   rw[if_pos rfl]
   obtain⟨hj,_⟩:=tget_at hT hh
   exact List.mem_iff_getElem.2 ⟨tlow T a,by simpa using hj,by simp⟩
 constructor
 ·intro h
  by_cases e:y=a
  ·subst e;exact Or.inl ⟨rfl,mem_uniq (tset_sorted hT _ _) h hin⟩
  ·rcases tset_mem h with h | h
   ·injection h with h1 h2;exact absurd h1 e
   ·exact Or.inr ⟨e,h⟩
 ·rintro(⟨rfl,rfl⟩ | ⟨e,h⟩)
  ·exact hin
  ·unfold tset
   cases hh:thas T a with
   | false=>exact tins_mem.2 (Or.inr h)
   | true =>
    rw[if_pos rfl]
    obtain⟨hj,e1,_⟩:=tget_at hT hh
    obtain⟨i,hi,e2⟩:=List.mem_iff_getElem.1 h
    refine List.mem_iff_getElem.2 ⟨i,by simpa using hi,?_⟩
    rw[List.getElem_set,if_neg,e2]
    intro e3
    subst e3
    rw[e2] at e1
    exact e e1
theorem trem_mem_iff {T:Tb} (hT:tsorted T) {a y:ByteArray} {u:Nat}:(y,u) ∈ trem T a↔¬ y=a∧(y,u) ∈ T:=by
 unfold trem
 cases hh:thas T a with
 | false =>
  rw[if_neg (by decide)]
  refine⟨fun h=>⟨fun e=>?_,h⟩,fun h=>h.2⟩
  subst e
  have:=thas_mem.2 ⟨u,h⟩
  rw[this] at hh;cases hh
 | true =>
  rw[if_pos rfl]
  obtain⟨hj,e1,_⟩:=tget_at hT hh
  rw[List.mem_eraseIdx_iff_getElem]
  constructor
  ·rintro⟨i,hi,hne,e2⟩
   refine⟨fun e=>?_,e2 ▸ List.getElem_mem _⟩
   subst e
   rcases Nat.lt_or_gt_of_ne hne with hl | hl
   ·have:=tsorted_lt hT hl hj
    rw[e1,e2,lt_irrefl] at this;cases this
   ·have:=tsorted_lt hT hl hi
    rw[e1,e2,lt_irrefl] at this;cases this
  ·rintro⟨e,h⟩
   obtain⟨i,hi,e2⟩:=List.mem_iff_getElem.1 h
   refine⟨i,hi,fun e3=>?_,e2⟩
   subst e3
   rw[e2] at e1
   exact e e1
theorem opt_ext {a b:Option Nat} (h:∀ v,a=some v↔b=some v):a=b:=by
 cases a with
 | none =>
  cases b with
  | none=>rfl
  | some x=>have:=(h x).2 rfl;cases this
 | some x=>exact((h x).1 rfl).symm
theorem tget_tset {T:Tb} (hT:tsorted T) (a y:ByteArray) (v:Nat):tget (tset T a v) y=if y=a then some v else tget T y:=by
 apply opt_ext
 intro u
 rw[tget_mem (tset_sorted hT _ _),tset_mem_iff hT]
 by_cases e:y=a
 ·subst e;rw[if_pos rfl];simp;exact eq_comm
 ·rw[if_neg e,tget_mem hT];simp[e]
theorem tget_trem {T:Tb} (hT:tsorted T) (a y:ByteArray):tget (trem T a) y=if y=a then none else tget T y:=by
 apply opt_ext
 intro u
 rw[tget_mem (trem_sorted hT _),trem_mem_iff hT]
 by_cases e:y=a
 ·subst e;simp
 ·rw[if_neg e,tget_mem hT];simp[e]
theorem rget_cons (p:ByteArray × Nat) (L:Tb) (y:ByteArray):rget (p :: L) y=if y=p.1 then some p.2 else rget L y:=by
 unfold rget
 rw[List.find?_cons]
 by_cases e:p.1=y
 ·rw[show decide (p.1=y)=true from decide_eq_true e,if_pos e.symm];rfl
 ·rw[show decide (p.1=y)=false from decide_eq_false e,if_neg (fun h=>e h.symm)]
theorem tget_tab:∀ (L:Tb) (y:ByteArray),tget (tab L) y=rget L y
 | [],y=>rfl
 | p :: L,y=>by rw[tab,tget_tset (tab_sorted L),rget_cons,tget_tab L y]
theorem mem_ext:∀ (T U:Tb),tsorted T→tsorted U→(∀ p,p ∈ T↔p ∈ U)→T=U
 | [],[],_,_,_=>rfl
 | [],q :: u,_,_,h=>by have:=(h q).2 (List.mem_cons_self ..);cases this
 | p :: t,[],_,_,h=>by have:=(h p).1 (List.mem_cons_self ..);cases this
 | p :: t,q :: u,hT,hU,h=>by
  obtain⟨h1,h2⟩:=List.pairwise_cons.1 hT
  obtain⟨g1,g2⟩:=List.pairwise_cons.1 hU
  have e:p=q:=by
   rcases List.mem_cons.1 ((h p).1 (List.mem_cons_self ..)) with e | hp
   ·exact e
   ·rcases List.mem_cons.1 ((h q).2 (List.mem_cons_self ..)) with e | hq
    ·exact e.symm
    ·have a:=g1 p hp
     have b:=h1 q hq
     rw[lt_asymm a] at b;cases b
  subst e
  congr 1
  refine mem_ext t u h2 g2 fun x=>⟨fun hx=>?_,fun hx=>?_⟩
  ·rcases List.mem_cons.1 ((h x).1 (List.mem_cons_of_mem _ hx)) with e | k
   ·subst e;have:=h1 x hx;rw[lt_irrefl] at this;cases this
   ·exact k
  ·rcases List.mem_cons.1 ((h x).2 (List.mem_cons_of_mem _ hx)) with e | k
   ·subst e;have:=g1 x hx;rw[lt_irrefl] at this;cases this
   ·exact k
theorem tab_ext {T U:Tb} (hT:tsorted T) (hU:tsorted U) (h:∀ y,tget T y=tget U y):T=U:=by
 refine mem_ext T U hT hU fun p=>?_
 obtain⟨a,v⟩:=p
 rw[← tget_mem hT,← tget_mem hU,h]
theorem rget_wo (a y:ByteArray):∀ L:Tb,rget (wo L a) y=if y=a then none else rget L y:=by
 intro L
 induction L with
 | nil=>simp[wo,rget]
 | cons p L ih =>
  unfold wo at ih ⊢
  rw[List.filter_cons]
  by_cases e:p.1=a
  ·rw[if_neg (by simp[e]),ih,rget_cons,e]
   by_cases e2:y=a
   ·rw[if_pos e2,if_pos e2]
   ·rw[if_neg e2,if_neg e2,if_neg e2]
  ·rw[if_pos (by simp[e]),rget_cons,rget_cons,ih]
   by_cases e2:y=p.1
   ·rw[if_pos e2,if_neg (by rw[e2];exact e),if_pos e2]
   ·rw[if_neg e2,if_neg e2]
theorem rget_snoc (b y:ByteArray) (i:Nat):∀ L:Tb,rget L b=none→rget (L++[(b,i)]) y=if y=b then some i else rget L y:=by
 intro L
 induction L with
 | nil=>intro _;rw[List.nil_append,rget_cons]
 | cons p L ih =>
  intro h
  rw[rget_cons] at h
  by_cases e:b=p.1
  ·rw[if_pos e] at h;cases h
  ·rw[if_neg e] at h
   rw[List.cons_append,rget_cons,rget_cons,ih h]
   by_cases e2:y=p.1
   ·rw[if_pos e2,if_pos e2,if_neg (fun e3=>e (e3.symm.trans e2))]
   ·rw[if_neg e2,if_neg e2]
def apT (T:Tb) (c:Ch):Tb:=if c.comes=e0 then trem T c.goes else tset (trem T c.goes) c.comes c.file
theorem apT_sorted {T:Tb} (h:tsorted T) (c:Ch):tsorted (apT T c):=by
 unfold apT;split
 ·exact trem_sorted h _
 ·exact tset_sorted (trem_sorted h _) _ _
theorem tab_ap {L:Tb} (h:rget L e0=none) (c:Ch):tab (ap L c)=apT (tab L) c:=by
 refine tab_ext (tab_sorted _) (apT_sorted (tab_sorted _) c) fun y=>?_
 rw[tget_tab]
 unfold ap apT
 by_cases hc:c.comes=e0
 ·rw[if_pos hc,if_pos hc,rget_wo,rget_wo,tget_trem (tab_sorted L),tget_tab,hc]
  by_cases e:y=e0
  ·rw[if_pos e,e,h];split <;> rfl
  ·rw[if_neg e]
 ·rw[if_neg hc,if_neg hc,rget_snoc _ _ _ _ (by rw[rget_wo,if_pos rfl]),tget_tset (trem_sorted (tab_sorted L) _),tget_trem (tab_sorted L),tget_tab,rget_wo,rget_wo]
  by_cases e:y=c.comes
  ·rw[if_pos e,if_pos e]
  ·rw[if_neg e,if_neg e,if_neg e]
theorem wo_keyed {L:Tb} (h:keyed L) (a:ByteArray):keyed (wo L a):=h.sublist List.filter_sublist
theorem wo_mem {L:Tb} {a:ByteArray} {p:ByteArray × Nat}:p ∈ wo L a↔p ∈ L∧¬ p.1=a:=by unfold wo;rw[List.mem_filter];simp
theorem ap_keyed {L:Tb} (h:keyed L) (c:Ch):keyed (ap L c):=by
 unfold ap
 split
 ·exact wo_keyed (wo_keyed h _) _
 ·refine List.pairwise_append.2 ⟨wo_keyed (wo_keyed h _) _,List.pairwise_singleton ..,fun p hp q hq=>?_⟩
  rw[List.mem_singleton.1 hq]
  exact(wo_mem.1 hp).2
theorem ap_some {L:Tb} (h:∀ p ∈ L,¬ p.1=e0) (c:Ch):∀ p ∈ ap L c,¬ p.1=e0:=by
 intro p hp
 unfold ap at hp
 split at hp
 ·exact(wo_mem.1 hp).2 |> fun h2=>by rename_i e;rw[e] at h2;exact h2
 ·rename_i e
  rcases List.mem_append.1 hp with hp | hp
  ·exact h p (wo_mem.1 (wo_mem.1 hp).1).1
  ·rw[List.mem_singleton.1 hp];exact e
theorem rget_none {L:Tb} {a:ByteArray}:rget L a=none↔∀ p ∈ L,¬ p.1=a:=by
 unfold rget
 rw[Option.map_eq_none_iff,List.find?_eq_none]
 simp
theorem ap_mem {L:Tb} {c:Ch} {p:ByteArray × Nat} (h:p ∈ ap L c):p ∈ L∨(¬ c.comes=e0∧p=(c.comes,c.file)):=by
 unfold ap at h
 split at h
 ·exact Or.inl (wo_mem.1 (wo_mem.1 h).1).1
 ·rename_i e
  rcases List.mem_append.1 h with h | h
  ·exact Or.inl (wo_mem.1 (wo_mem.1 h).1).1
  ·exact Or.inr ⟨e,List.mem_singleton.1 h⟩
theorem fold_keyed:∀ (C:List Ch) (L:Tb),keyed L→keyed (C.foldl ap L)
 | [],_,h=>h
 | c :: C,L,h=>fold_keyed C (ap L c) (ap_keyed h c)
theorem fold_some:∀ (C:List Ch) (L:Tb),(∀ p ∈ L,¬ p.1=e0)→∀ p ∈ C.foldl ap L,¬ p.1=e0
 | [],_,h=>h
 | c :: C,L,h=>fold_some C (ap L c) (ap_some h c)
theorem fold_mem:∀ (C:List Ch) (L:Tb) (p:ByteArray × Nat),p ∈ C.foldl ap L→p ∈ L∨∃ c ∈ C,¬ c.comes=e0∧p=(c.comes,c.file)
 | [],_,_,h=>Or.inl h
 | c :: C,L,p,h=>by
  rcases fold_mem C (ap L c) p h with h | ⟨d,hd,e⟩
  ·rcases ap_mem h with h | e
   ·exact Or.inl h
   ·exact Or.inr ⟨c,List.mem_cons_self ..,e⟩
  ·exact Or.inr ⟨d,List.mem_cons_of_mem _ hd,e⟩
theorem rget_mem {L:Tb} (h:keyed L) {a:ByteArray} {v:Nat}:rget L a=some v↔(a,v) ∈ L:=by
 induction L with
 | nil=>simp[rget]
 | cons p L ih =>
  obtain⟨h1,h2⟩:=List.pairwise_cons.1 h
  rw[rget_cons,List.mem_cons]
  by_cases e:a=p.1
  ·rw[if_pos e]
   constructor
   ·intro hh;left;rw[e,← Option.some.inj hh]
   ·rintro(hh | hh)
    ·rw[← hh]
    ·exact absurd e.symm (h1 _ hh)
  ·rw[if_neg e,ih h2]
   constructor
   ·exact Or.inr
   ·rintro(hh | hh)
    ·exact absurd (by rw[← hh]) e
    ·exact hh
theorem tab_mem {L:Tb} (h:keyed L) {p:ByteArray × Nat}:p ∈ tab L↔p ∈ L:=by
 obtain⟨a,v⟩:=p
 rw[← tget_mem (tab_sorted L),tget_tab,rget_mem h]
theorem tab_perm:∀ L:Tb,keyed L→(tab L).Perm L
 | [],_=>List.Perm.nil
 | p :: L,h=>by
  obtain⟨h1,h2⟩:=List.pairwise_cons.1 h
  have ih:=tab_perm L h2
  have hn:thas (tab L) p.1=false:=by
   cases hh:thas (tab L) p.1 with
   | false=>rfl
   | true =>
    obtain⟨v,hv⟩:=thas_mem.1 hh
    exact absurd rfl (h1 (p.1,v) ((tab_mem h2).1 hv))
  rw[tab]
  unfold tset
  rw[if_neg (by rw[hn];decide)]
  unfold tins
  refine List.perm_middle.trans (List.Perm.cons _ ?_)
  rw[List.take_append_drop]
  exact ih
theorem tab_len {L:Tb} (h:keyed L):(tab L).length=L.length:=(tab_perm L h).length_eq
theorem sorted_keyed {T:Tb} (h:tsorted T):keyed T:=h.imp fun hpq e=>by rw[e,lt_irrefl] at hpq;cases hpq
theorem tab_self {T:Tb} (h:tsorted T):tab T=T:=mem_ext _ _ (tab_sorted T) h fun p=>tab_mem (sorted_keyed h)
structure Rk.Ok (R:Rk):Prop where
 key:keyed R.safe
 some:∀ p ∈ R.safe,¬ p.1=e0
 sf:∀ p ∈ R.safe,p.2 < R.files.length
 cf:∀ c ∈ R.chs,c.file < R.files.length∨c.comes=e0
 cut:∀ f ∈ R.files,f.safe≤f.bytes.size
theorem wo_self {L:Tb} (h:∀ p ∈ L,¬ p.1=e0):wo L e0=L:=List.filter_eq_self.2 fun p hp=>by simp[h p hp]
theorem Rk.Ok.dir_keyed {R:Rk} (h:R.Ok) (n:Nat):keyed (R.dir n):=by unfold Rk.dir;exact fold_keyed _ _ (wo_keyed h.key _)
theorem Rk.Ok.dir_some {R:Rk} (h:R.Ok) (n:Nat):∀ p ∈ R.dir n,¬ p.1=e0:=by unfold Rk.dir;exact fold_some _ _ fun p hp=>(wo_mem.1 hp).2
theorem Rk.Ok.dir_file {R:Rk} (h:R.Ok) (n:Nat):∀ p ∈ R.dir n,p.2 < R.files.length:=fun p hp=>by
 unfold Rk.dir at hp
 rcases fold_mem _ _ p hp with hp | ⟨c,hc,hne,e⟩
 ·exact h.sf p (wo_mem.1 hp).1
 ·rcases h.cf c (List.mem_of_mem_take hc) with h1 | h1
  ·rw[e];exact h1
  ·exact absurd h1 hne
theorem Rk.now_snoc (R:Rk) (c:Ch):({ R with chs:=R.chs++[c] }:Rk).now=ap R.now c:=by
 unfold Rk.now Rk.dir
 rw[List.take_length,List.take_length]
 show (R.chs++[c]).foldl ap _=_
 rw[List.foldl_append];rfl
def nmB (b:Nat):Bool:=(decide (97≤b) && decide (b≤122)) || (decide (48≤b) && decide (b≤57)) || decide (b=46)
def fnm (s:ByteArray):Bool:=decide (1≤s.size) && decide (s.size≤12) && s.data.toList.all fun b=>nmB b.toNat
theorem fnm_ne {s:ByteArray} (h:fnm s=true):¬ s=e0:=fun e=>by subst e;revert h;decide
def Rk.fl (R:Rk) (i:Nat):Fl:=R.files.getD i ⟨e0,0⟩
def Rk.use (R:Rk) (L:Tb):Nat:=(L.map fun p=>(R.fl p.2).bytes.size).sum
theorem use_perm (R:Rk) {L M:Tb} (h:L.Perm M):R.use L=R.use M:=(h.map _).sum_nat
def Rk.up (R:Rk):Bool := !R.down && !decide (R.left=0)
def Rk.cnt (R:Rk):Rk:=if R.down=true then R else if R.left=0 then { R with down:=true } else if 0 < R.left then { R with left:=R.left - 1 } else R
def Rk.addF (R:Rk) (a:ByteArray):Rk:={ R with files:=R.files++[⟨e0,0⟩],chs:=R.chs++[⟨e0,a,R.files.length⟩] }
def Rk.setF (R:Rk) (i:Nat) (f:Fl):Rk:={ R with files:=R.files.set i f }
def Rk.create (R:Rk) (a:ByteArray):Int × Rk:=if R.up=false then (9,R.cnt) else if fnm a=true then (0,R.cnt.addF a) else (10,R.cnt)
def Rk.on (R:Rk) (a:ByteArray) (k:Rk→Nat→Int × Rk):Int × Rk :=
 if R.up=false then (9,R.cnt) else match rget R.now a with
  | none=>(11,R.cnt)
  | some i=>k R.cnt i
def Rk.append (R:Rk) (a t:ByteArray):Int × Rk:=R.on a fun Q i=>if Q.limit < (Q.use Q.now:Int)+t.size then (12,Q) else (0,Q.setF i ⟨(Q.fl i).bytes++t,(Q.fl i).safe⟩)
def Rk.sync (R:Rk) (a:ByteArray):Int × Rk:=R.on a fun Q i=>(0,Q.setF i ⟨(Q.fl i).bytes,(Q.fl i).bytes.size⟩)
def Rk.remove (R:Rk) (a:ByteArray):Int × Rk:=R.on a fun Q i=>(0,{ Q with chs:=Q.chs++[⟨a,e0,0⟩] })
def Rk.rename (R:Rk) (a b:ByteArray):Int × Rk:=if R.up=true∧fnm b=false then (10,R.cnt) else R.on a fun Q i=>(0,if a=b then Q else { Q with chs:=Q.chs++[⟨a,b,i⟩] })
def Rk.syncDir (R:Rk):Int × Rk:=if R.up=false then (9,R.cnt) else (0,{ R.cnt with safe:=R.now,chs:=[] })
theorem cnt_now (R:Rk):R.cnt.now=R.now:=by
 unfold Rk.cnt
 split
 ·rfl
 ·split
  ·rfl
  ·split <;> rfl
def clN (k:Int) (m:Nat):Nat:=(min (max k 0) (m:Int)).toNat
def crF (F:Fl) (k:Int):Fl:=⟨F.bytes.extract 0 (F.safe+clN k (F.bytes.size - F.safe)),F.safe+clN k (F.bytes.size - F.safe)⟩
def crFs (K:Nat→Int):Nat→List Fl→Tb→List Fl
 | _,F,[]=>F
 | i,F,p :: L=>crFs K (i+1) (F.set p.2 (crF (F.getD p.2 ⟨e0,0⟩) (K i))) L
def Rk.crash (R:Rk) (n:Int) (K:Nat→Int):Rk:={ files:=crFs K 0 R.files (tab (R.dir n.toNat)),safe:=tab (R.dir n.toNat),chs:=[],limit:=R.limit,left := -1,down:=false }
def Rk.arm (R:Rk) (n:Int):Rk:={ R with left:=if n < 0 then -1 else n }
open Go.RowKit
open Sd (Tb)
theorem Tryz.info_entry:(Tryz.prog.info? 213).map (fun i=>(i.zero,i.size,i.bytes))=some (some (.agg #[.string ⟨#[]⟩,.int .i64 0]),2,24):=by kernel_rfl
def enCells (L:Tb):List Value:=L.flatMap fun p=>[.string p.1,.int .i64 (p.2:Int)]
def chCells (C:List Ch):List Value:=C.flatMap fun c=>[.string c.goes,.string c.comes,.int .i64 (c.file:Int)]
def flCells (F:List Fl):List Value:=F.flatMap fun f=>[.string f.bytes,.int .i64 (f.safe:Int)]
theorem en_get (L:Tb):∀ (k:Nat) (h:k < L.length),(enCells L)[k * 2]? = some (.string L[k].1)∧(enCells L)[k * 2+1]? = some (.int .i64 (L[k].2:Int)):=by
 induction L with
 | nil=>intro k h;simp at h
 | cons l L ih =>
  intro k h
  cases k with
  | zero=>exact⟨rfl,rfl⟩
  | succ k =>
   have:=ih k (by simpa using h)
   have e:enCells (l :: L)=[Value.string l.1,.int .i64 (l.2:Int)]++enCells L:=rfl
   have a0:(k+1) * 2=k * 2+2:=by omega
   rw[e,a0]
   simp only[List.cons_append,List.nil_append,List.getElem_cons_succ]
   exact this
theorem fl_get (L:List Fl):∀ (k:Nat) (h:k < L.length),(flCells L)[k * 2]? = some (.string L[k].bytes)∧(flCells L)[k * 2+1]? = some (.int .i64 (L[k].safe:Int)):=by
 induction L with
 | nil=>intro k h;simp at h
 | cons l L ih =>
  intro k h
  cases k with
  | zero=>exact⟨rfl,rfl⟩
  | succ k =>
   have:=ih k (by simpa using h)
   have e:flCells (l :: L)=[Value.string l.bytes,.int .i64 (l.safe:Int)]++flCells L:=rfl
   have a0:(k+1) * 2=k * 2+2:=by omega
   rw[e,a0]
   simp only[List.cons_append,List.nil_append,List.getElem_cons_succ]
   exact this
theorem ch_get (L:List Ch):∀ (k:Nat) (h:k < L.length),(chCells L)[k * 3]? = some (.string L[k].goes)∧(chCells L)[k * 3+1]? = some (.string L[k].comes)∧(chCells L)[k * 3+2]? = some (.int .i64 (L[k].file:Int)):=by
 induction L with
 | nil=>intro k h;simp at h
 | cons l L ih =>
  intro k h
  cases k with
  | zero=>exact⟨rfl,rfl,rfl⟩
  | succ k =>
   have:=ih k (by simpa using h)
   have e:chCells (l :: L)=[Value.string l.goes,.string l.comes,.int .i64 (l.file:Int)]++chCells L:=rfl
   have a0:(k+1) * 3=k * 3+3:=by omega
   rw[e,a0]
   simp only[List.cons_append,List.nil_append,List.getElem_cons_succ]
   exact this
def EntsIn (w:World) (G:Nat) (p:Option Addr) (L:Tb):Prop :=
 ∀ k (h:k < L.length),∃ g,p=some ⟨g,0,none⟩∧g < G∧w.cell? ⟨g,k * 2,none⟩=some (.string L[k].1)∧w.cell? ⟨g,k * 2+1,none⟩=some (.int .i64 (L[k].2:Int))
theorem EntsIn.below {w w':World} {G:Nat} {p:Option Addr} {L:Tb} (h:EntsIn w G p L) (hb:Below G w w'):EntsIn w' G p L:=fun k hk=>by
 obtain⟨g,a,hg,b0,b1⟩:=h k hk
 exact⟨g,a,hg,by rw[hb.cell (p:=⟨g,k * 2,none⟩) hg];exact b0,by rw[hb.cell (p:=⟨g,k * 2+1,none⟩) hg];exact b1⟩
theorem ents_of_own {w:World} {B:Nat} {v:Value} {L:Tb} (h:w.ownsRow B 213 2 v L.length (enCells L)):∃ p cap,v = .slice p L.length cap∧EntsIn w w.heap.size p L:=by
 obtain⟨p,cap,hv,hc⟩:=osl h
 refine⟨p,cap,hv,fun k hk=>?_⟩
 obtain⟨e0,e1⟩:=en_get L k hk
 obtain⟨g,hp,_,hg,c0⟩:=hc (k * 2) (by omega)
 obtain⟨g1,hp1,_,_,c1⟩:=hc (k * 2+1) (by omega)
 have q1:g1=g:=by rw[hp] at hp1;injection hp1 with q;injection q with q;exact q.symm
 subst q1
 exact⟨_,hp,hg,c0.trans e0,c1.trans e1⟩
theorem str_is {a b:ByteArray} (h:a=b):(a.toList == b.toList)=true:=by subst h;exact beq_self_eq_true _
theorem str_ne {a b:ByteArray} (h:¬ a=b):(a.toList == b.toList)=false:=beq_eq_false_iff_ne.2 fun e=>h (Sd.toList_inj e)
def woTo (L:Tb) (a:ByteArray) (k:Nat):Tb:=wo (L.take k) a
theorem woTo_succ {L:Tb} {a:ByteArray} {k:Nat} (h:k < L.length):woTo L a (k+1)=if L[k].1=a then woTo L a k else woTo L a k++[L[k]]:=by
 unfold woTo wo
 rw[List.take_add_one,List.getElem?_eq_getElem h,List.filter_append]
 by_cases e:L[k].1=a
 ·simp[e]
 ·simp[e]
theorem wo_len (L:Tb) (a:ByteArray):(wo L a).length≤L.length:=List.length_filter_le _ _
theorem woTo_len (L:Tb) (a:ByteArray) (k:Nat):(woTo L a k).length≤k:=by
 have:=wo_len (L.take k) a
 unfold woTo
 simp at this;omega
theorem en_snoc (L:Tb) (p:ByteArray × Nat):enCells (L++[p])=enCells L++[.string p.1,.int .i64 (p.2:Int)]:=by simp[enCells]
def EnPost (w:World) (L:Tb) (e:Ending) (w':World):Prop := ∃ v,e = .returned v∧w'.ownsRow w.heap.size 213 2 v L.length (enCells L)∧Below w.heap.size w w'
theorem without_any (p:Option Addr) (cap:Nat) (L:Tb) (a:ByteArray) (w:World) (h:EntsIn w w.heap.size p L) (hl:L.length≤1000000000) :
  Calls Tryz.prog 233 #[.slice p L.length cap,.string a] w (EnPost w (wo L a)):=by
 obtain⟨i0,hi,hz0,hz1,hz2⟩:=info_parts Tryz.info_entry
 have HE:=hde h
 clear h
 go_enter Tryz.func233,Tryz.ntmps233
 go_wp2
 go_loopw [5,6] (fun v i wr=>∃ k:Nat,k≤L.length∧i = .int .i64 k∧wr.ownsRow w.heap.size 213 2 v (woTo L a k).length (enCells (woTo L a k))∧Below w.heap.size w wr) (fun _ i _=>L.length - (intOf i).toNat)
 case atStart=>exact⟨0,Nat.zero_le _,rfl,World.ownsRow_nil _ _ _ _,Below.refl _ _⟩
 case round =>
  obtain⟨k,hk,rfl,ho,hb⟩:=hrel
  by_cases hlt:k < L.length
  ·obtain⟨g,rfl,hg,c0,c1⟩:=((uh HE).below hb) k hlt
   have hln:=woTo_len L a k
   have HS:=hde (woTo_succ (a:=a) hlt)
   have hB:=hb.size
   obtain⟨x,hx⟩:∃ x,L[k]=x:=⟨_,rfl⟩
   rw[hx] at c0 c1 HS
   clear hx
   by_cases e:x.1=a
   ·have g1:=str_is e
    go_wp2
    go_roundw
    case rel=>exact⟨k+1,by omega,by go_num,by rw[uh HS,if_pos e];exact ho,hb⟩
    case measure=>simp[intOf];omega
   ·have g1:=str_ne e
    go_wp2_with (first
     | (at_builtin;go_must (refine wpList_append_own _ rfl (.tmp 20) (.tmp 25) 206 rfl w.heap.size 213 i0 _ 2 24 Tryz.underlying206 hi hz0 hz1 hz2 rfl (by decide) _ _ _ rfl (ho.alloc _) ⟨wr.heap.size,0,none⟩ 1 1 [.string x.1,.int .i64 (x.2:Int)] rfl rfl ?c1 ?c2 ?c3 ?c4 ?c5 ?_))
     | go_in)
    case c1 =>
     intro j u hj
     match j,hj with
     | 0,hj=>simp at hj;subst hj;simp[Addr.add]
     | 1,hj=>simp at hj;subst hj;simp[Addr.add]
     | j+2,hj=>simp at hj
    case c2=>intro u hu;simp at hu;rcases hu with rfl | rfl <;> rfl
    case c3=>unfold maxLen;omega
    case c4=>omega
    case c5=>simp;omega
    intro v3 w3 hl3 hg3 _
    have hbw3:=rel_app (ys:=[]) (v':=v3) (by simp;omega) (ho.alloc _) (hb.alloc hB _) hg3
    clear hg3 ho
    go_wp2
    go_roundw
    case rel=>exact⟨k+1,by omega,by go_num,by rw[uh HS,if_neg e,en_snoc,List.length_append];exact hl3,hbw3⟩
    case measure=>simp[intOf];omega
  ·obtain rfl:k=L.length:=by omega
   go_wp2
   go_ret
   refine⟨_,rfl,?_,hb⟩
   have:woTo L a L.length=wo L a:=by unfold woTo;rw[List.take_length]
   rw[← this];exact ho
end Go.Proofs.YteflnddphpjahaaGreatDoor.Rd
