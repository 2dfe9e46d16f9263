import Derived.Test.YteflnddphpjahaaGreatDoorClPlLtoRefC
import Derived.Test.YteflnddphpjahaaGreatDoorClAppKtoCqP
import Derived.WalkKit
import Derived.Deep.AppendLies
import Derived.Test.YteflnddphpjahaaGreatDoorProg
import Derived.Test.YteflnddphpjahaaGreatDoorClRefHtoGMem
import Derived.Outline
import Derived.Deep.DeepMust
import Derived.Test.YteflnddphpjahaaGreatDoorClRefI
import Derived.Deep.RegionHeld3
import Derived.Deep.QuietTactic
import Derived.BigQuiet
set_option linter.unusedVariables false
set_option linter.unusedSimpArgs false
set_option maxRecDepth 100000
set_option maxHeartbeats 16000000
namespace Go.Proofs.YteflnddphpjahaaGreatDoor
open Go.RowKit
structure Turns (H:Nat) (es:List Nat) (w w':World):Prop where
 os:w'.os=w.os
 tape:w'.tape=w.tape
 output:w'.output=w.output
 size:w.heap.size≤w'.heap.size
 low:∀ k,k < H→w'.heap[k]? = w.heap[k]?
 block:∀ k,k < w.heap.size→k≠H→(∀ cur e fr,w.heap[k]? = some (.cells cur e fr)→e ∉ es)→w'.heap[k]? = w.heap[k]?
theorem Turns.trans {H:Nat} {es:List Nat} {a b c:World} (h:Turns H es a b) (k:Turns H es b c):Turns H es a c:=by
 refine⟨k.os.trans h.os,k.tape.trans h.tape,k.output.trans h.output,Nat.le_trans h.size k.size,fun i hi=>(k.low i hi).trans (h.low i hi),fun i hi hne ht=>?_⟩
 have e1:=h.block i hi hne ht
 exact(k.block i (Nat.lt_of_lt_of_le hi h.size) hne (fun cur e fr hc=>ht cur e fr (by rw[← e1];exact hc))).trans e1
theorem Turns.below {H:Nat} {es:List Nat} {a b:World} (h:Turns H es a b):Below H a b:=⟨h.os,h.tape,h.output,h.size,h.low⟩
theorem Turns.of_below {H:Nat} {es:List Nat} {a b:World} (hH:H≤a.heap.size) (h:Below a.heap.size a b):Turns H es a b :=
 ⟨h.os,h.tape,h.output,h.size,fun k hk=>h.block k (by omega),fun k hk _ _=>h.block k hk⟩
theorem Turns.alloc (H:Nat) (es:List Nat) (w:World) (hH:H≤w.heap.size) (o:Obj):Turns H es w (w.alloc o):=
 Turns.of_below hH ((Below.refl _ _).alloc nlr o)
theorem Turns.setH (H:Nat) (es:List Nat) (w:World) (j:Nat) (u:Value):Turns H es w (w.setCell ⟨H,j,none⟩ u):=
 ⟨rfl,rfl,rfl,by simp[World.setCell],fun k hk=>Below.heap_setCell _ _ _ _ (by show k≠H;omega),fun k _ hne _=>Below.heap_setCell _ _ _ _ hne⟩
theorem Turns.setRow {H e size n B:Nat} {es:List Nat} {w:World} {v:Value} {xs:List Value} {g:Nat} (ho:w.ownsRow B e size v n xs) (hv:v.ownBlock=some g) (hB:H < B) (he:e ∈ es) (j:Nat) (u:Value):Turns H es w (w.setCell ⟨g,j,none⟩ u):=by
 have hg:=(ho.lt g hv).1
 refine⟨rfl,rfl,rfl,by simp[World.setCell],fun k hk=>Below.heap_setCell _ _ _ _ (by show k≠g;omega),fun k _ hne ht=>Below.heap_setCell _ _ _ _ ?_⟩
 intro (e1:k=g)
 subst e1
 rcases ho.2 with ⟨rfl,_⟩ | ⟨g',cap,cur,rfl,_,hgg,_⟩
 ·cases hv
 ·have:g'=k:=by simpa [Value.ownBlock] using hv
  subst this
  exact ht _ _ _ hgg he
theorem Turns.grown {H e size n B:Nat} {es:List Nat} {w w':World} {v:Value} {xs:List Value} (ho:w.ownsRow B e size v n xs) (hg:w.grownBy w' v.ownBlock) (hB:H < B) (hH:H≤w.heap.size) (he:e ∈ es):Turns H es w w':=by
 refine⟨hg.os,hg.tape,hg.output,hg.size,fun k hk=>?_,fun k hk hne ht=>?_⟩
 ·exact hg.block k (by omega) (fun e1=>by have:=(ho.lt k e1.symm).1;omega)
 ·refine hg.block k hk (fun e1=>?_)
  rcases ho.2 with ⟨rfl,_⟩ | ⟨g',cap,cur,rfl,_,hgg,_⟩
  ·cases e1
  ·have:k=g':=by simpa [Value.ownBlock] using e1
   subst this
   exact ht _ _ _ hgg he
theorem Turns.keeps {H e g:Nat} {es:List Nat} {w w':World} {cur:Array Value} {fr:Nat × Nat} (h:Turns H es w w') (hg:w.heap[g]? = some (.cells cur e fr)) (hne:g≠H) (he:e ∉ es):w'.heap[g]? = some (.cells cur e fr):=by
 rw[h.block g (Array.getElem?_eq_some_iff.1 hg).1 hne (fun cur' e' fr' hc=>by rw[hg] at hc;injection hc with hc;injection hc with _ hc;subst hc;exact he),hg]
theorem Tryz.info_hv:(Tryz.prog.info? 58).map (fun i=>(i.zero,i.size,i.bytes))=some (some (.agg #[.slice none 0 0,.int .i64 0]),2,32):=by kernel_rfl
def rep (mk:List Value):Nat→List Value
 | 0=>[]
 | n+1=>rep mk n++mk
def hCells (l:List (Value × Int)):List Value:=l.flatMap fun p=>[p.1,.int .i64 p.2]
theorem hCells_snoc (l:List (Value × Int)) (v:Value) (m:Int):hCells (l++[(v,m)])=hCells l++[v,.int .i64 m]:=by simp[hCells]
def mkV (m:Int):List Value:=[.int .i64 m]
def mkN (m:Int):List Value:=[.int .i32 (m % 1000000007)]
def mkE (m:Int):List Value:=[.int .i64 m,.int .i64 (-m),.int .i64 m]
def Marked (w:World) (e size:Nat) (mk:Int→List Value) (p:Value × Int):Prop := ∃ n,n≤100000∧w.ownsRow 0 e size p.1 n (rep (mk p.2) n)
structure HeldSt (w:World) (H N:Nat) (v1 v2 v3:Value) (hv hn he:List (Value × Int)):Prop where
 lt:H < w.heap.size
 small:N≤1000∧hv.length≤1000∧hn.length≤1000∧he.length≤1000
 c0:w.cell? ⟨H,0,none⟩=some (.int .i64 N)
 c1:w.cell? ⟨H,1,none⟩=some v1
 c2:w.cell? ⟨H,2,none⟩=some v2
 c3:w.cell? ⟨H,3,none⟩=some v3
 c4:w.cell? ⟨H,4,none⟩=some (.slice none 0 0)
 c5:w.cell? ⟨H,5,none⟩=some (.slice none 0 0)
 fz:∀ j,w.frozen? ⟨H,j,none⟩=false
 r1:w.ownsRow (H+1) 58 2 v1 hv.length (hCells hv)
 r2:w.ownsRow (H+1) 61 2 v2 hn.length (hCells hn)
 r3:w.ownsRow (H+1) 65 2 v3 he.length (hCells he)
 m1:∀ p ∈ hv,Marked w 2 1 mkV p
 m2:∀ p ∈ hn,Marked w 21 1 mkN p
 m3:∀ p ∈ he,Marked w 67 3 mkE p
theorem mark_any (H N:Nat) (w:World) (hN:N≤2000) (c0:w.cell? ⟨H,0,none⟩=some (.int .i64 N)) (f0:w.frozen? ⟨H,0,none⟩=false) :
  Calls Tryz.prog 59 #[.pointer (some ⟨H,0,none⟩)] w fun e w'=>e = .returned (.int .i64 (1099511627783+((N+1:Nat):Int)))∧w'=w.setCell ⟨H,0,none⟩ (.int .i64 ((N+1:Nat):Int)):=by
 go_enter Tryz.func59,Tryz.ntmps59
 go_wp2
 go_ret
 exact⟨by go_num,by go_num⟩
theorem grown_setCellH (w:World) (g j:Nat) (u:Value):w.grownBy (w.setCell ⟨g,j,none⟩ u) (some g):=
 ⟨rfl,rfl,rfl,by simp[World.setCell],fun k _ hne=>Below.heap_setCell _ _ _ _ (fun (e:k=g)=>hne (by rw[e]))⟩
theorem Marked.kept {w w':World} {e size:Nat} {mk:Int→List Value} {p:Value × Int} {row:Option Nat} (h:Marked w e size mk p) (hg:w.grownBy w' row) (hne:p.1.ownBlock=none∨p.1.ownBlock≠row):Marked w' e size mk p:=by
 obtain⟨n,hn,ho⟩:=h
 exact⟨n,hn,ho.kept hg hne⟩
theorem Marked.other {w w':World} {e size B e' s n:Nat} {mk:Int→List Value} {p:Value × Int} {v:Value} {xs:List Value} (h:Marked w e size mk p) (hv:w.ownsRow B e' s v n xs) (hg:w.grownBy w' v.ownBlock) (he:e≠e'):Marked w' e size mk p:=by
 obtain⟨n,hn,ho⟩:=h
 exact⟨n,hn,ho.kept hg (own_ne ho hv he)⟩
theorem HeldSt.grown {w w':World} {H N:Nat} {v1 v2 v3:Value} {hv hn he:List (Value × Int)} {row:Option Nat} (h:HeldSt w H N v1 v2 v3 hv hn he) (hg:w.grownBy w' row) (h0:some H≠row)
  (a1:v1.ownBlock=none∨v1.ownBlock≠row) (a2:v2.ownBlock=none∨v2.ownBlock≠row) (a3:v3.ownBlock=none∨v3.ownBlock≠row)
  (b1:∀ p ∈ hv,Marked w' 2 1 mkV p) (b2:∀ p ∈ hn,Marked w' 21 1 mkN p) (b3:∀ p ∈ he,Marked w' 67 3 mkE p):HeldSt w' H N v1 v2 v3 hv hn he:=by
 have hl:=h.lt
 have hc:∀ j,w'.cell? ⟨H,j,none⟩=w.cell? ⟨H,j,none⟩:=fun j=>hg.cell_far ⟨H,j,none⟩ hl h0
 have hs:=hg.size
 exact⟨by omega,h.small,(hc 0).trans h.c0,(hc 1).trans h.c1,(hc 2).trans h.c2,(hc 3).trans h.c3,(hc 4).trans h.c4,(hc 5).trans h.c5,
  fun j=>(hg.frozen_far ⟨H,j,none⟩ hl h0).trans (h.fz j),h.r1.kept hg a1,h.r2.kept hg a2,h.r3.kept hg a3,b1,b2,b3⟩
theorem HeldSt.alloc {w:World} {H N:Nat} {v1 v2 v3:Value} {hv hn he:List (Value × Int)} (h:HeldSt w H N v1 v2 v3 hv hn he) (o:Obj):HeldSt (w.alloc o) H N v1 v2 v3 hv hn he :=
 h.grown (World.grownBy_alloc w o none) (by simp) (by cases v1.ownBlock <;> simp) (by cases v2.ownBlock <;> simp) (by cases v3.ownBlock <;> simp)
  (fun p hp=>(h.m1 p hp).kept (World.grownBy_alloc w o none) (by cases p.1.ownBlock <;> simp))
  (fun p hp=>(h.m2 p hp).kept (World.grownBy_alloc w o none) (by cases p.1.ownBlock <;> simp))
  (fun p hp=>(h.m3 p hp).kept (World.grownBy_alloc w o none) (by cases p.1.ownBlock <;> simp))
theorem HeldSt.below {w w':World} {H N:Nat} {v1 v2 v3:Value} {hv hn he:List (Value × Int)} (h:HeldSt w H N v1 v2 v3 hv hn he) (hb:Below w.heap.size w w'):HeldSt w' H N v1 v2 v3 hv hn he:=by
 have hg:w.grownBy w' none:=⟨hb.os,hb.tape,hb.output,hb.size,fun k hk _=>hb.block k hk⟩
 exact h.grown hg (by simp) (by cases v1.ownBlock <;> simp) (by cases v2.ownBlock <;> simp) (by cases v3.ownBlock <;> simp)
  (fun p hp=>(h.m1 p hp).kept hg (by cases p.1.ownBlock <;> simp)) (fun p hp=>(h.m2 p hp).kept hg (by cases p.1.ownBlock <;> simp)) (fun p hp=>(h.m3 p hp).kept hg (by cases p.1.ownBlock <;> simp))
theorem own_setH {w:World} {H e size n B:Nat} {v:Value} {xs:List Value} (h:w.ownsRow B e size v n xs) (hne:v.ownBlock≠some H) (j:Nat) (u:Value):(w.setCell ⟨H,j,none⟩ u).ownsRow B e size v n xs :=
 h.kept (grown_setCellH w H j u) (.inr hne)
theorem Marked.setH {w:World} {H e size:Nat} {mk:Int→List Value} {p:Value × Int} (h:Marked w e size mk p) (hne:p.1.ownBlock≠some H) (j:Nat) (u:Value):Marked (w.setCell ⟨H,j,none⟩ u) e size mk p :=
 h.kept (grown_setCellH w H j u) (.inr hne)
def Off (H:Nat) (l:List (Value × Int)):Prop := ∀ p ∈ l,p.1.ownBlock≠some H
theorem HeldSt.setN {w:World} {H N:Nat} {v1 v2 v3:Value} {hv hn he:List (Value × Int)} (h:HeldSt w H N v1 v2 v3 hv hn he) (o1:Off H hv) (o2:Off H hn) (o3:Off H he) (hN:N+1≤1000) :
  HeldSt (w.setCell ⟨H,0,none⟩ (.int .i64 ((N+1:Nat):Int))) H (N+1) v1 v2 v3 hv hn he:=by
 have hne:∀ v:Value,∀ e s n xs,w.ownsRow (H+1) e s v n xs→v.ownBlock≠some H:=fun v e s n xs ho e1=>by have:=(ho.lt H e1).1;omega
 have hc:∀ j,j≠0→(w.setCell ⟨H,0,none⟩ (.int .i64 ((N+1:Nat):Int))).cell? ⟨H,j,none⟩=w.cell? ⟨H,j,none⟩:=fun j hj=>World.cell?_setCell_other _ _ _ _ (by simp[hj])
 refine⟨by simp[World.setCell];exact h.lt,⟨hN,h.small.2⟩,World.cell?_setCell_same _ _ _ h.c0,(hc 1 (by omega)).trans h.c1,(hc 2 (by omega)).trans h.c2,(hc 3 (by omega)).trans h.c3,(hc 4 (by omega)).trans h.c4,(hc 5 (by omega)).trans h.c5,
  fun j=>(World.frozen?_setCell _ _ _ _).trans (h.fz j),own_setH h.r1 (hne _ _ _ _ _ h.r1) _ _,own_setH h.r2 (hne _ _ _ _ _ h.r2) _ _,own_setH h.r3 (hne _ _ _ _ _ h.r3) _ _,
  fun p hp=>(h.m1 p hp).setH (o1 p hp) _ _,fun p hp=>(h.m2 p hp).setH (o2 p hp) _ _,fun p hp=>(h.m3 p hp).setH (o3 p hp) _ _⟩
theorem HeldSt.app1 {w w1:World} {H N:Nat} {v1 v2 v3 v':Value} {hv hn he:List (Value × Int)} {p:Value × Int} (h:HeldSt w H N v1 v2 v3 hv hn he) (o1:Off H (hv++[p])) (o2:Off H hn) (o3:Off H he)
  (ho:w1.ownsRow (H+1) 58 2 v' (hv.length+1) (hCells hv++[p.1,.int .i64 p.2])) (hg:w.grownBy w1 v1.ownBlock) (hm:Marked w 2 1 mkV p) (hs:hv.length+1≤1000) :
  HeldSt (w1.setCell ⟨H,1,none⟩ v') H N v' v2 v3 (hv++[p]) hn he:=by
 have hl:=h.lt
 have h0:some H≠v1.ownBlock:=fun e=>by have:=(h.r1.lt H e.symm).1;omega
 have hc:∀ j,w1.cell? ⟨H,j,none⟩=w.cell? ⟨H,j,none⟩:=fun j=>hg.cell_far ⟨H,j,none⟩ hl h0
 have hd:∀ j,j≠1→(w1.setCell ⟨H,1,none⟩ v').cell? ⟨H,j,none⟩=w.cell? ⟨H,j,none⟩:=fun j hj=>(World.cell?_setCell_other _ _ _ _ (by simp[hj])).trans (hc j)
 have hz:=hg.size
 have hne:∀ v:Value,∀ e s n xs,w1.ownsRow (H+1) e s v n xs→v.ownBlock≠some H:=fun v e s n xs ho e1=>by have:=(ho.lt H e1).1;omega
 have hle:(hv++[p]).length≤1000:=by simp;omega
 refine⟨by simp[World.setCell];omega,⟨h.small.1,hle,h.small.2.2⟩,(hd 0 (by omega)).trans h.c0,World.cell?_setCell_same _ _ _ ((hc 1).trans h.c1),(hd 2 (by omega)).trans h.c2,(hd 3 (by omega)).trans h.c3,(hd 4 (by omega)).trans h.c4,(hd 5 (by omega)).trans h.c5,
  fun j=>(World.frozen?_setCell _ _ _ _).trans ((hg.frozen_far ⟨H,j,none⟩ hl h0).trans (h.fz j)),?_,?_,?_,?_,?_,?_⟩
 ·have:w1.ownsRow (H+1) 58 2 v' (hv++[p]).length (hCells (hv++[p])):=by rw[hCells_snoc];simpa using ho
  exact own_setH this (hne _ _ _ _ _ this) _ _
 ·have:=own_app h.r1 h.r2 (by decide) hg
  exact own_setH this (hne _ _ _ _ _ this) _ _
 ·have:=own_app h.r1 h.r3 (by decide) hg
  exact own_setH this (hne _ _ _ _ _ this) _ _
 ·intro q hq
  refine Marked.setH ?_ (o1 q hq) _ _
  rcases List.mem_append.1 hq with hq | hq
  ·exact(h.m1 q hq).other h.r1 hg (by decide)
  ·rw[List.mem_singleton.1 hq];exact hm.other h.r1 hg (by decide)
 ·intro q hq;exact((h.m2 q hq).other h.r1 hg (by decide)).setH (o2 q hq) _ _
 ·intro q hq;exact((h.m3 q hq).other h.r1 hg (by decide)).setH (o3 q hq) _ _
theorem rep_len (mk:List Value) (n:Nat):(rep mk n).length=n * mk.length:=by
 induction n with
 | zero=>simp[rep]
 | succ n ih=>simp only[rep,List.length_append,ih,Nat.succ_mul]
theorem set_rep (m:Value) (xs:List Value) (k:Nat) (hk:k < xs.length):(rep [m] k++xs.drop k).set k m=rep [m] (k+1)++xs.drop (k+1):=by
 have h1:(rep [m] k).length=k:=by rw[rep_len];simp
 rw[List.set_append_right _ _ (by omega),h1,Nat.sub_self,List.drop_eq_getElem_cons hk]
 simp only[rep,List.set_cons_zero,List.append_assoc,List.cons_append,List.nil_append]
def Lie (B:Nat) (l:List (Value × Int)):Prop := ∀ p ∈ l,∀ g,p.1.ownBlock=some g→g < B
def Lists (w:World) (e size:Nat) (mk:Int→List Value) (v:Value) (n:Nat) (l:List (Value × Int)):Prop :=
 ∀ p ∈ l,∃ n',n'≤100000∧w.ownsRow 0 e size p.1 n' (rep (mk p.2) n')∧(p.1.ownBlock=v.ownBlock→n'≤n)
theorem Lists.marked {w:World} {e size n:Nat} {mk:Int→List Value} {v:Value} {l:List (Value × Int)} (h:Lists w e size mk v n l):∀ p ∈ l,Marked w e size mk p:=fun p hp=>by
 obtain⟨n',h1,h2,_⟩:=h p hp
 exact⟨n',h1,h2⟩
theorem own_nil {w:World} {B e size n:Nat} {v:Value} {xs:List Value} (h:w.ownsRow B e size v n xs) (hv:v.ownBlock=none):n=0:=by
 rcases h.2 with ⟨_,h0⟩ | ⟨g,cap,cur,rfl,_⟩
 ·exact h0
 ·cases hv
theorem Lists.start {w:World} {e size B n:Nat} {mk:Int→List Value} {v:Value} {xs:List Value} {l:List (Value × Int)} (h:∀ p ∈ l,Marked w e size mk p) (hl:Lie B l) (ho:w.ownsRow B e size v n xs):Lists w e size mk v n l:=fun p hp=>by
 obtain⟨n',h1,h2⟩:=h p hp
 refine⟨n',h1,h2,fun e1=>?_⟩
 cases hb:v.ownBlock with
 | none=>rw[hb] at e1;have:=own_nil h2 e1;omega
 | some g =>
  rw[hb] at e1
  have a1:=hl p hp g e1
  have a2:=(ho.lt g hb).1
  omega
theorem Lists.next {w w':World} {e size n:Nat} {mk:Int→List Value} {v v':Value} {l:List (Value × Int)} (h:Lists w e size mk v n l) (hg:w.grownBy w' v.ownBlock) (hat:v'.ownBlock=v.ownBlock∨v'.ownBlock=some w.heap.size)
  (hk:∀ (B':Nat) (u:Value) (n':Nat) (ys:List Value),n'≤n→u.ownBlock=v.ownBlock→w.ownsRow B' e size u n' ys→w'.ownsRow B' e size u n' ys):Lists w' e size mk v' (n+1) l:=fun p hp=>by
 obtain⟨n',h1,h2,h3⟩:=h p hp
 by_cases hb:p.1.ownBlock=v.ownBlock
 ·exact⟨n',h1,hk _ _ _ _ (h3 hb) hb h2,fun _=>by have:=h3 hb;omega⟩
 ·refine⟨n',h1,h2.kept hg (.inr hb),fun e1=>?_⟩
  rcases hat with hat | hat
  ·rw[hat] at e1;exact absurd e1 hb
  ·rw[hat] at e1
   have:=(h2.lt _ e1).2
   omega
theorem Lists.other {w w':World} {e size n B e' s m:Nat} {mk:Int→List Value} {v u:Value} {xs:List Value} {l:List (Value × Int)} (h:Lists w e size mk v n l) (hu:w.ownsRow B e' s u m xs) (hg:w.grownBy w' u.ownBlock) (he:e≠e'):Lists w' e size mk v n l:=fun p hp=>by
 obtain⟨n',h1,h2,h3⟩:=h p hp
 exact⟨n',h1,h2.kept hg (own_ne h2 hu he),h3⟩
theorem Lists.setH {w:World} {e size n H:Nat} {mk:Int→List Value} {v:Value} {l:List (Value × Int)} (h:Lists w e size mk v n l) (ho:Off H l) (j:Nat) (u:Value):Lists (w.setCell ⟨H,j,none⟩ u) e size mk v n l:=fun p hp=>by
 obtain⟨n',h1,h2,h3⟩:=h p hp
 exact⟨n',h1,own_setH h2 (ho p hp) _ _,h3⟩
theorem Lists.snoc {w:World} {e size n:Nat} {mk:Int→List Value} {v:Value} {m:Int} {l:List (Value × Int)} (h:Lists w e size mk v n l) (hn:n≤100000) (ho:w.ownsRow 0 e size v n (rep (mk m) n)):Lists w e size mk v n (l++[(v,m)]):=fun p hp=>by
 rcases List.mem_append.1 hp with hp | hp
 ·exact h p hp
 ·rw[List.mem_singleton.1 hp];exact⟨n,hn,ho,fun _=>Nat.le_refl _⟩
theorem own_zero {w:World} {B e size n:Nat} {v:Value} {xs:List Value} (h:w.ownsRow B e size v n xs):w.ownsRow 0 e size v n xs:=by
 obtain⟨h1,h2⟩:=h
 refine⟨h1,?_⟩
 rcases h2 with h2 | ⟨g,cap,cur,hv,hB,r⟩
 ·exact .inl h2
 ·exact .inr ⟨g,cap,cur,hv,Nat.zero_le _,r⟩
theorem Off.of_lie {H B:Nat} {l:List (Value × Int)} (h:∀ p ∈ l,∀ g,p.1.ownBlock=some g→H < g):Off H l:=fun p hp e=>by have:=h p hp H e;omega
def High (H:Nat) (l:List (Value × Int)):Prop := ∀ p ∈ l,(∀ g,p.1.ownBlock=some g→H < g)∧(0≤p.2∧p.2≤1099511628783)
theorem High.off {H:Nat} {l:List (Value × Int)} (h:High H l):Off H l:=fun p hp e=>by have:=(h p hp).1 H e;omega
theorem High.snoc {H B e size n:Nat} {w:World} {l:List (Value × Int)} {v:Value} {xs:List Value} (h:High H l) (ho:w.ownsRow B e size v n xs) (hB:H < B) (m:Int) (hm:0≤m∧m≤1099511628783):High H (l++[(v,m)]):=fun p hp=>by
 rcases List.mem_append.1 hp with hp | hp
 ·exact h p hp
 ·have e:=List.mem_singleton.1 hp
  refine⟨fun g hg=>?_,by rw[e];exact hm⟩
  rw[e] at hg;have:=(ho.lt g hg).1;omega
theorem new_cell (w:World) (cs:Array Value) (t n j:Nat) (x:Value) (hn:n=w.heap.size) (h:cs[j]? = some x):(w.alloc (.cells cs t)).cell? ⟨n,j,none⟩=some x:=by
 subst hn;simp[h]
def ValuesPost (w:World) (H N B:Nat) (v2 v3:Value) (hv hn he:List (Value × Int)) (e:Ending) (w':World):Prop :=
 e = .returned (.tuple #[])∧∃ v1' hv',HeldSt w' H (N+1) v1' v2 v3 hv' hn he∧High H hv'∧hv'.length=hv.length+4∧Turns H [2,58] w w'
theorem values_any (H N B n:Nat) (l v1 v2 v3:Value) (hv hn he:List (Value × Int)) (xs:List Value) (w:World) (h:HeldSt w H N v1 v2 v3 hv hn he) (hN:N+1≤1000) (hvl:hv.length+4≤1000)
  (a1:High H hv) (a2:High H hn) (a3:High H he) (hB:H < B) (hBs:B≤w.heap.size) (hlie:Lie B hv) (hl:w.ownsRow B 2 1 l n xs) (hn9:n≤90000) :
  Calls Tryz.prog 34 #[.pointer (some ⟨H,0,none⟩),l] w (ValuesPost w H N B v2 v3 hv hn he):=by
 obtain⟨t1,ht1,hua,hub,huc⟩:=info_parts Tryz.info_i64
 obtain⟨t2,ht2,hva,hvb,hvc⟩:=info_parts Tryz.info_hv
 have c0:=h.c0
 have f0:=h.fz 0
 obtain⟨p,cap,rfl,_⟩:=osl hl
 go_enter Tryz.func34,Tryz.ntmps34
 go_wp2_with fail
 refine(mark_any H N _ (by omega) c0 f0).mono ?_
 rintro e w1 ⟨rfl,hw1⟩
 have h1:=h.setN a1.off a2.off a3.off hN
 have t01:=Turns.setH H [2,58] w 0 (.int .i64 ((N+1:Nat):Int))
 have hl1:=own_setH hl (H:=H) (fun e=>by have:=(hl.lt H e).1;omega) 0 (.int .i64 ((N+1:Nat):Int))
 rw[← hw1] at h1 t01 hl1
 generalize hm:(1099511627783+((N+1:Nat):Int))=m
 have hm0:0≤m:=by omega
 have hm1:m≤1099511628783:=by omega
 clear hm hw1 c0 f0 h hl
 go_wp2_with fail
 go_loopw [5] (fun i wr=>∃ k:Nat,k≤n∧i = .int .i64 k∧HeldSt wr H (N+1) v1 v2 v3 hv hn he∧wr.ownsRow B 2 1 (.slice p n cap) n (rep [.int .i64 m] k++xs.drop k)∧Turns H [2,58] w wr) (fun i _=>n - (intOf i).toNat)
 case atStart=>exact⟨0,Nat.zero_le _,rfl,h1,by simpa [rep] using hl1,t01⟩
 case round =>
  clear h1 t01 hl1
  obtain⟨k,hk,rfl,h1,hl1,t01⟩:=hrel
  by_cases hlt:k < n
  ·obtain⟨g,cap',hp⟩:=own_form hl1 (by omega)
   injection hp with hp1 hp2 hp3
   subst hp1 hp3
   have hxl:xs.length=n:=by
    have:=hl1.1
    rw[List.length_append,rep_len,List.length_drop] at this
    simp at this;omega
   have hc0:wr.cell? ⟨g,k,none⟩=some xs[k]:=by
    rw[hl1.cellAt k (by omega),List.getElem?_append_right (by rw[rep_len];simp),rep_len]
    simp[hxl,hlt]
   have hf:=hl1.frozenAt k
   have hst:=hl1.stored k (.int .i64 m)
   rw[set_rep _ _ _ (by omega)] at hst
   have hgB:B≤g:=(hl1.lt g rfl).1
   have h2:=h1.grown hst.2 (by simp;omega) (own_ne h1.r1 hl1 (by decide)) (own_ne h1.r2 hl1 (by decide)) (own_ne h1.r3 hl1 (by decide))
    (fun q hq=>(h1.m1 q hq).kept hst.2 (.inr (fun e=>by have:=hlie q hq g e;omega)))
    (fun q hq=>(h1.m2 q hq).other hl1 hst.2 (by decide)) (fun q hq=>(h1.m3 q hq).other hl1 hst.2 (by decide))
   have t12:=t01.trans (Turns.setRow hl1 rfl hB (by simp) k (.int .i64 m))
   have HR:=hde (And.intro h2 (And.intro hst.1 t12))
   clear h2 hst t12 h1 t01
   go_wp2
   go_roundw
   case rel=>exact⟨k+1,by omega,by go_num,(uh HR).1,(uh HR).2.1,(uh HR).2.2⟩
   case measure=>simp[intOf];omega
  ·obtain rfl:k=n:=by omega
   have hl2:wr.ownsRow B 2 1 (.slice p k cap) k (rep (mkV m) k):=by
    have hx:xs.drop k=[]:=by
     apply List.drop_of_length_le
     have:=hl1.1
     rw[List.length_append,rep_len,List.length_drop] at this
     simp at this;omega
    rw[hx,List.append_nil] at hl1;exact hl1
   have hbw:=hBs
   have hBr:B≤wr.heap.size:=Nat.le_trans hBs t01.size
   clear hl1
   go_wp2_with fail
   go_loopw [6,7] (fun gv j wr=>∃ (r:Nat) (v1:Value) (hv':List (Value × Int)),r≤3∧j = .int .i64 r∧hv'.length=hv.length+r∧HeldSt wr H (N+1) v1 v2 v3 hv' hn he∧High H hv'∧wr.ownsRow B 2 1 gv (k+r) (rep (mkV m) (k+r))∧Lists wr 2 1 mkV gv (k+r) hv'∧B≤wr.heap.size∧Turns H [2,58] w wr) (fun _ j _=>3 - (intOf j).toNat)
   case atStart=>exact⟨0,v1,hv,by omega,rfl,rfl,h1,a1,hl2,Lists.start h1.m1 hlie hl2,hBr,t01⟩
   case round =>
    clear h1 t01 hl2 hBr
    obtain⟨r,v1,hv',hr,rfl,hlen,h1,a1,hl2,hls,hBr,t01⟩:=hrel
    have hle:hv'.length≤999:=by omega
    have HLE:=hde hlen
    clear hlen
    have hc0:=h1.c1
    have hf0:=h1.fz 1
    have hsm:=h1.small
    have hGl:=h1.lt
    obtain⟨p6,cap6,rfl,_⟩:=osl hl2
    have a1':=High.snoc a1 hl2 hB m ⟨hm0,hm1⟩
    by_cases hlt:r < 3
    ·go_wp2_with (first
      | (at_builtin;go_must (refine wpList_append_lies _ rfl (.tmp 29) (.tmp 33) 23 rfl (H+1) 58 t2 _ 2 32 Tryz.underlying23 ht2 hva hvb hvc rfl (by omega) v1 _ _ rfl (h1.r1.alloc _) ⟨wr.heap.size,0,none⟩ 1 1 [.slice p6 (k+r) cap6,.int .i64 m] rfl rfl ?c1 ?c2 (by omega) ?c3 ?c4 ?c5 (wr.heap.size+1) ?c6 ?_))
      | go_in)
     case c1 =>
      intro j u hj
      match j,hj with
      | 0,hj=>simp at hj;subst hj;simp[Addr.add]
      | 1,hj=>simp at hj;subst hj;simp[Addr.add]
     case c2=>intro u hu;simp at hu;rcases hu with rfl | rfl <;> rfl
     case c3=>unfold maxLen;omega
     case c4=>omega
     case c5=>simp;omega
     case c6=>simp
     intro gg cp w2 hown2 hgrow2 hat2 hlt2
     have hne0:some H≠v1.ownBlock:=fun e=>by have:=(h1.r1.lt H e.symm).1;omega
     have hq0:w2.cell? ⟨H,1,none⟩=some v1:=(hgrow2.cell_far ⟨H,1,none⟩ (by simp;omega) hne0).trans (h1.alloc _).c1
     have hq1:w2.frozen? ⟨H,1,none⟩=false:=(hgrow2.frozen_far ⟨H,1,none⟩ (by simp;omega) hne0).trans ((h1.alloc _).fz 1)
     have hmk:Marked (wr.alloc (.cells #[.slice p6 (k+r) cap6,.int .i64 m] 58)) 2 1 mkV (.slice p6 (k+r) cap6,m):=⟨k+r,by omega,own_zero (hl2.alloc _)⟩
     have h3:=(h1.alloc _).app1 a1'.off a2.off a3.off hown2 hgrow2 hmk (by omega)
     have hl3:=own_setH (own_app (h1.r1.alloc _) (hl2.alloc _) (by decide) hgrow2) (H:=H) (fun e=>by have:=(hl2.lt H e).1;omega) 1 (.slice (some ⟨gg,0,none⟩) (hv'.length+1) cp)
     have hls3:Lists (w2.setCell ⟨H,1,none⟩ (.slice (some ⟨gg,0,none⟩) (hv'.length+1) cp)) 2 1 mkV (.slice p6 (k+r) cap6) (k+r) (hv'++[(.slice p6 (k+r) cap6,m)]):=by
      refine Lists.setH ?_ a1'.off _ _
      have hla:Lists (wr.alloc (.cells #[.slice p6 (k+r) cap6,.int .i64 m] 58)) 2 1 mkV (.slice p6 (k+r) cap6) (k+r) hv':=fun q hq=>by
       obtain⟨n',b1,b2,b3⟩:=hls q hq
       exact⟨n',b1,b2.alloc _,b3⟩
      exact(hla.snoc (by omega) (own_zero (hl2.alloc _))).other (h1.r1.alloc _) hgrow2 (by decide)
     have t3:=((t01.trans (Turns.alloc H _ wr (by omega) (.cells #[.slice p6 (k+r) cap6,.int .i64 m] 58))).trans (Turns.grown (h1.r1.alloc _) hgrow2 (by omega) (by simp;omega) (by simp))).trans (Turns.setH H _ w2 1 (.slice (some ⟨gg,0,none⟩) (hv'.length+1) cp))
     have hz2:=hgrow2.size
     simp at hz2
     clear hown2 hgrow2 hat2 hlt2 hne0 hmk h1 hl2 hls t01
     go_wp2_with (first
      | (at_builtin;go_must (refine wpList_append_keeps _ rfl (.tmp 37) (.tmp 39) 42 rfl B 2 t1 _ 1 8 Tryz.underlying42 ht1 hua hub huc rfl (by omega) _ _ _ rfl (hl3.alloc _) ⟨w2.heap.size,0,none⟩ 1 1 (by omega) [.int .i64 m] rfl rfl ?d1 ?d2 ?d3 ?d4 ?d5 ?_))
      | go_in)
     case d1 =>
      intro j u hj
      match j,hj with
      | 0,hj=>simp at hj;subst hj;simp only[Addr.add_lit,Nat.add_zero];exact new_cell _ _ _ _ _ _ (by simp) rfl
     case d2=>intro u hu;simp at hu;subst hu;rfl
     case d3=>unfold maxLen;omega
     case d4=>omega
     case d5=>simp;omega
     intro v5 w5 hl5 hg5 hat5 hk5
     have hls5:=(show Lists ((w2.setCell ⟨H,1,none⟩ (.slice (some ⟨gg,0,none⟩) (hv'.length+1) cp)).alloc (.cells #[.int .i64 m] 2)) 2 1 mkV (.slice p6 (k+r) cap6) (k+r) (hv'++[(.slice p6 (k+r) cap6,m)]) from fun q hq=>by
      obtain⟨n',b1,b2,b3⟩:=hls3 q hq
      exact⟨n',b1,b2.alloc _,b3⟩).next hg5 (by simpa using hat5) hk5
     have hneH:some H≠(Value.slice p6 (k+r) cap6).ownBlock:=fun e=>by have:=(hl3.lt H e.symm).1;omega
     have h5:=(h3.alloc _).grown hg5 hneH (own_ne h3.r1 hl3 (by decide)) (own_ne h3.r2 hl3 (by decide)) (own_ne h3.r3 hl3 (by decide)) hls5.marked
      (fun q hq=>((h3.alloc _).m2 q hq).other (hl3.alloc _) hg5 (by decide)) (fun q hq=>((h3.alloc _).m3 q hq).other (hl3.alloc _) hg5 (by decide))
     have t5:=(t3.trans (Turns.alloc H _ _ (by simp;omega) (.cells #[.int .i64 m] 2))).trans (Turns.grown (hl3.alloc _) hg5 hB (by simp;omega) (by simp))
     have hz5:=hg5.size
     simp at hz5
     have HR:=hde (And.intro h5 (And.intro hls5 (And.intro t5 hl5)))
     clear hls5 h5 t5 hl5 h3 hl3 hls3 t3 hk5 hg5 hat5
     go_wp2
     go_roundw
     case rel=>exact⟨r+1,_,_,by omega,by go_num,by rw[List.length_append,uh HLE];simp;omega,(uh HR).1,a1',(uh HR).2.2.2,(uh HR).2.1,by omega,(uh HR).2.2.1⟩
     case measure=>simp[intOf];omega
    ·obtain rfl:r=3:=by omega
     go_wp2_with (first
      | (at_builtin;go_must (refine wpList_append_lies _ rfl (.tmp 45) (.tmp 49) 23 rfl (H+1) 58 t2 _ 2 32 Tryz.underlying23 ht2 hva hvb hvc rfl (by omega) v1 _ _ rfl (h1.r1.alloc _) ⟨wr.heap.size,0,none⟩ 1 1 [.slice p6 (k+3) cap6,.int .i64 m] rfl rfl ?e1 ?e2 (by omega) ?e3 ?e4 ?e5 (wr.heap.size+1) ?e6 ?_))
      | go_in)
     case e1 =>
      intro j u hj
      match j,hj with
      | 0,hj=>simp at hj;subst hj;simp[Addr.add]
      | 1,hj=>simp at hj;subst hj;simp[Addr.add]
     case e2=>intro u hu;simp at hu;rcases hu with rfl | rfl <;> rfl
     case e3=>unfold maxLen;omega
     case e4=>omega
     case e5=>simp;omega
     case e6=>simp
     intro gg cp w2 hown2 hgrow2 hat2 hlt2
     have hne0:some H≠v1.ownBlock:=fun e=>by have:=(h1.r1.lt H e.symm).1;omega
     have hq0:w2.cell? ⟨H,1,none⟩=some v1:=(hgrow2.cell_far ⟨H,1,none⟩ (by simp;omega) hne0).trans (h1.alloc _).c1
     have hq1:w2.frozen? ⟨H,1,none⟩=false:=(hgrow2.frozen_far ⟨H,1,none⟩ (by simp;omega) hne0).trans ((h1.alloc _).fz 1)
     have hmk:Marked (wr.alloc (.cells #[.slice p6 (k+3) cap6,.int .i64 m] 58)) 2 1 mkV (.slice p6 (k+3) cap6,m):=⟨k+3,by omega,own_zero (hl2.alloc _)⟩
     have h3:=(h1.alloc _).app1 a1'.off a2.off a3.off hown2 hgrow2 hmk (by omega)
     have hl3:=own_setH (own_app (h1.r1.alloc _) (hl2.alloc _) (by decide) hgrow2) (H:=H) (fun e=>by have:=(hl2.lt H e).1;omega) 1 (.slice (some ⟨gg,0,none⟩) (hv'.length+1) cp)
     have hls3:Lists (w2.setCell ⟨H,1,none⟩ (.slice (some ⟨gg,0,none⟩) (hv'.length+1) cp)) 2 1 mkV (.slice p6 (k+3) cap6) (k+3) (hv'++[(.slice p6 (k+3) cap6,m)]):=by
      refine Lists.setH ?_ a1'.off _ _
      have hla:Lists (wr.alloc (.cells #[.slice p6 (k+3) cap6,.int .i64 m] 58)) 2 1 mkV (.slice p6 (k+3) cap6) (k+3) hv':=fun q hq=>by
       obtain⟨n',b1,b2,b3⟩:=hls q hq
       exact⟨n',b1,b2.alloc _,b3⟩
      exact(hla.snoc (by omega) (own_zero (hl2.alloc _))).other (h1.r1.alloc _) hgrow2 (by decide)
     have t3:=((t01.trans (Turns.alloc H _ wr (by omega) (.cells #[.slice p6 (k+3) cap6,.int .i64 m] 58))).trans (Turns.grown (h1.r1.alloc _) hgrow2 (by omega) (by simp;omega) (by simp))).trans (Turns.setH H _ w2 1 (.slice (some ⟨gg,0,none⟩) (hv'.length+1) cp))
     have hz2:=hgrow2.size
     simp at hz2
     clear hown2 hgrow2 hat2 hlt2 hne0 hmk h1 hl2 hls t01 hl3 hls3
     have HF:=hde (And.intro h3 t3)
     clear h3 t3
     go_wp2
     go_end0
     exact⟨rfl,_,_,(uh HF).1,a1',by rw[List.length_append,uh HLE];simp,(uh HF).2⟩
theorem wrap32_mod {m:Int} (h0:0≤m):IntKind.i32.wrap (m % 1000000007)=m % 1000000007:=by
 have a:=Int.emod_nonneg m (show (1000000007:Int)≠0 by decide)
 have b:=Int.emod_lt_of_pos m (show (0:Int) < 1000000007 by decide)
 have hm:(m % 1000000007) % 4294967296=m % 1000000007:=by omega
 unfold IntKind.wrap
 simp[IntKind.bits,IntKind.signed,hm]
 omega
theorem markRune_any (m:Int) (w:World) (h0:0≤m) (h1:m≤1099511628783) :
  Calls Tryz.prog 17 #[.int .i64 m] w fun e w'=>e = .returned (.int .i32 (m % 1000000007))∧w'=w:=by
 have hw:=wrap32_mod h0
 go_enter Tryz.func17,Tryz.ntmps17
 go_wp2
 go_ret
 exact⟨rfl,rfl⟩
theorem markEdge_any (m:Int) (w:World) (h0:0≤m) (h1:m≤1099511628783) :
  Calls Tryz.prog 18 #[.int .i64 m] w fun e w'=>e = .returned (.agg #[.int .i64 m,.int .i64 (-m),.int .i64 m])∧w'=w.alloc (.cells #[.int .i64 m,.int .i64 (-m),.int .i64 m] 67):=by
 go_enter Tryz.func18,Tryz.ntmps18
 go_wp2
 exact bodyPost_ret (v := .agg #[.int .i64 m,.int .i64 (-m),.int .i64 m]) (by simp[results,Tryz.results18,go_sem]) rfl ⟨rfl,rfl⟩
theorem cell_of {w:World} {g j e:Nat} {cur:Array Value} {x:Value} (h:w.heap[g]? = some (.cells cur e (0,0))) (hx:cur[j]? = some x):w.cell? ⟨g,j,none⟩=some x:=by
 rw[cell_of_row w g j cur e (0,0) h];exact hx
theorem rep_get (mk:List Value) (n k j:Nat) (u:Value) (hk:k < n) (hj:j < mk.length) (hu:mk[j]? = some u):(rep mk n)[k * mk.length+j]? = some u:=by
 induction n with
 | zero=>omega
 | succ n ih =>
  have hl:=rep_len mk n
  simp only[rep]
  by_cases h:k < n
  ·have h1:k * mk.length+j < (rep mk n).length:=by
    rw[hl]
    have:(k+1) * mk.length≤n * mk.length:=Nat.mul_le_mul_right _ h
    rw[Nat.succ_mul] at this;omega
   rw[List.getElem?_append_left h1];exact ih h
  ·obtain rfl:k=n:=by omega
   rw[List.getElem?_append_right (by omega),hl,Nat.add_sub_cancel_left];exact hu
theorem hCells_get (l:List (Value × Int)):∀ (i:Nat) (h:i < l.length),(hCells l)[i * 2]? = some l[i].1∧(hCells l)[i * 2+1]? = some (.int .i64 l[i].2):=by
 induction l with
 | nil=>intro i h;simp at h
 | cons p l ih =>
  intro i h
  cases i with
  | zero=>exact⟨rfl,rfl⟩
  | succ i =>
   have:=ih i (by simpa using h)
   have e:hCells (p :: l)=[p.1,Value.int .i64 p.2]++hCells l:=rfl
   have a0:(i+1) * 2=i * 2+2:=by omega
   rw[e,a0]
   simp only[List.cons_append,List.nil_append,List.getElem_cons_succ]
   exact this
theorem entry_at {w:World} {B e:Nat} {v:Value} {l:List (Value × Int)} (h:w.ownsRow B e 2 v l.length (hCells l)) (i:Nat) (hi:i < l.length) :
  ∃ g cap,v = .slice (some ⟨g,0,none⟩) l.length cap∧w.cell? ⟨g,i * 2,none⟩=some l[i].1∧w.cell? ⟨g,i * 2+1,none⟩=some (.int .i64 l[i].2):=by
 obtain⟨g,cap,rfl⟩:=own_form h (by omega)
 obtain⟨e1,e2⟩:=hCells_get l i hi
 exact⟨g,cap,rfl,(h.cellAt _ (by omega)).trans e1,(h.cellAt _ (by omega)).trans e2⟩
theorem marked_at {w:World} {e size:Nat} {mk:Int→List Value} {p:Value × Int} (h:Marked w e size mk p) (hs:∀ m,(mk m).length=size) :
  ∃ q n cap,p.1 = .slice q n cap∧n≤100000∧∀ k,k < n→∃ g,q=some ⟨g,0,none⟩∧∀ j u,(mk p.2)[j]? = some u→w.cell? ⟨g,k * size+j,none⟩=some u:=by
 obtain⟨n,hn,ho⟩:=h
 obtain⟨q,cap,hq,hc⟩:=osl ho
 refine⟨q,n,cap,hq,hn,fun k hk=>?_⟩
 cases q with
 | none =>
  rcases ho.2 with ⟨h1,h2⟩ | ⟨g',cap',cur,h1,_⟩
  ·omega
  ·rw[hq] at h1;cases h1
 | some a =>
  rcases ho.2 with ⟨h1,h2⟩ | ⟨g',cap',cur,h1,_⟩
  ·omega
  ·rw[hq] at h1
   injection h1 with h1 _ h3
   injection h1 with h1
   subst h1
   refine⟨g',rfl,fun j u hu=>?_⟩
   have hj:j < size:=by have:=(List.getElem?_eq_some_iff.1 hu).1;rw[hs] at this;exact this
   have hlt:k * size+j < n * size:=by
    have:(k+1) * size≤n * size:=Nat.mul_le_mul_right _ hk
    rw[Nat.succ_mul] at this;omega
   obtain⟨g2,e2,_,_,e3⟩:=hc (k * size+j) hlt
   injection e2 with e2
   injection e2 with e2
   subst e2
   rw[e3]
   have:=rep_get (mk p.2) n k j u hk (by rw[hs];exact hj) hu
   rw[hs] at this;exact this
theorem dry_any (H N:Nat) (v1 v2 v3:Value) (hv hn he:List (Value × Int)) (w:World) (h:HeldSt w H N v1 v2 v3 hv hn he) (b1:∀ p ∈ hv,0≤p.2∧p.2≤1099511628783) (b2:∀ p ∈ hn,0≤p.2∧p.2≤1099511628783) (b3:∀ p ∈ he,0≤p.2∧p.2≤1099511628783) :
  Calls Tryz.prog 8 #[.pointer (some ⟨H,0,none⟩)] w fun e w'=>e = .returned (.bool true)∧Below w.heap.size w w':=by
 go_enter Tryz.func8,Tryz.ntmps8
 go_wp2_with fail
 have hsm:=h.small
 go_loopw [3,4] (fun ok i wr=>∃ k:Nat,k≤hv.length∧i = .int .i64 k∧ok = .bool true∧Below w.heap.size w wr) (fun _ i _=>hv.length - (intOf i).toNat)
 case atStart=>exact⟨0,Nat.zero_le _,rfl,rfl,Below.refl _ _⟩
 case round =>
  obtain⟨k,hk,rfl,rfl,hb⟩:=hrel
  have hr:=h.below hb
  have c1:=hr.c1
  by_cases hlt:k < hv.length
  ·obtain⟨G,cap,hG,e0,e1⟩:=entry_at hr.r1 k hlt
   rw[hG] at c1
   obtain⟨q,n,cq,hq,hn9,hcq⟩:=marked_at (hr.m1 hv[k] (List.getElem_mem hlt)) (fun _=>rfl)
   rw[hq] at e0
   have HQ:=hde hq
   have HG:=hde hG
   clear hq hG
   go_wp2_with fail
   go_loopw [3,5] (fun ok i wr=>∃ j:Nat,j≤n∧i = .int .i64 j∧ok = .bool true∧Below w.heap.size w wr) (fun _ i _=>n - (intOf i).toNat)
   case atStart=>exact⟨0,Nat.zero_le _,rfl,rfl,hb⟩
   case round =>
    clear hr c1 e0 e1 hcq hb
    obtain⟨j,hj,rfl,rfl,hb⟩:=hrel
    have hr:=h.below hb
    have c1:=hr.c1
    rw[uh HG] at c1
    obtain⟨G',cap',e',e0,e1⟩:=entry_at hr.r1 k hlt
    rw[uh HG] at e'
    injection e' with e' _ e''
    injection e' with e'
    injection e' with e'
    subst e' e''
    obtain⟨q',n',cq',hq',_,hcq⟩:=marked_at (hr.m1 hv[k] (List.getElem_mem hlt)) (fun _=>rfl)
    rw[uh HQ] at hq'
    injection hq' with e1' e2' e3'
    subst e1' e2' e3'
    rw[uh HQ] at e0
    by_cases hltj:j < n
    ·obtain⟨g,rfl,hc⟩:=hcq j hltj
     have hk0:(0:Int)≤(k:Int):=Int.natCast_nonneg _
     have hk1:(k:Int) < (hv.length:Int):=by omega
     have hj0:(0:Int)≤(j:Int):=Int.natCast_nonneg _
     have hj1:(j:Int) < (n:Int):=by omega
     obtain⟨bm0,bm1⟩:=b1 hv[k] (List.getElem_mem hlt)
     generalize hv[k].2=m at e1 hc bm0 bm1
     have hc0:=hc 0 _ rfl
     simp only[Nat.mul_one,Nat.add_zero] at hc0
     clear hc
     have hmm:(m == m)=true:=beq_iff_eq.2 rfl
     go_wp2_with fail
     go_quiet (fail)
     go_wp2
     go_roundw
     case rel=>exact⟨j+1,by omega,by go_num,by trivial,hb.trans ((below_drewN _ _).mono hb.size)⟩
     case measure=>simp[intOf];omega
    ·obtain rfl:j=n:=by omega
     go_wp2
     go_roundw
     case rel=>exact⟨k+1,by omega,by go_num,by trivial,hb⟩
     case measure=>simp[intOf];omega
  ·obtain rfl:k=hv.length:=by omega
   obtain⟨p1,k1,hp1,_⟩:=osl hr.r1
   rw[hp1] at c1
   clear hp1
   go_wp2_with fail
   go_loopw [3,6] (fun ok i wr=>∃ k:Nat,k≤hn.length∧i = .int .i64 k∧ok = .bool true∧Below w.heap.size w wr) (fun _ i _=>hn.length - (intOf i).toNat)
   case atStart=>exact⟨0,Nat.zero_le _,rfl,rfl,hb⟩
   case round =>
    clear hr c1 hb
    obtain⟨k,hk,rfl,rfl,hb⟩:=hrel
    have hr:=h.below hb
    have c1:=hr.c2
    by_cases hlt:k < hn.length
    ·obtain⟨G,cap,hG,e0,e1⟩:=entry_at hr.r2 k hlt
     rw[hG] at c1
     obtain⟨q,n,cq,hq,hn9,hcq⟩:=marked_at (hr.m2 hn[k] (List.getElem_mem hlt)) (fun _=>rfl)
     rw[hq] at e0
     have HQ:=hde hq
     have HG:=hde hG
     clear hq hG
     go_wp2_with fail
     go_loopw [3,7] (fun ok i wr=>∃ j:Nat,j≤n∧i = .int .i64 j∧ok = .bool true∧Below w.heap.size w wr) (fun _ i _=>n - (intOf i).toNat)
     case atStart=>exact⟨0,Nat.zero_le _,rfl,rfl,hb⟩
     case round =>
      clear hr c1 e0 e1 hcq hb
      obtain⟨j,hj,rfl,rfl,hb⟩:=hrel
      have hr:=h.below hb
      have c1:=hr.c2
      rw[uh HG] at c1
      obtain⟨G',cap',e',e0,e1⟩:=entry_at hr.r2 k hlt
      rw[uh HG] at e'
      injection e' with e' _ e''
      injection e' with e'
      injection e' with e'
      subst e' e''
      obtain⟨q',n',cq',hq',_,hcq⟩:=marked_at (hr.m2 hn[k] (List.getElem_mem hlt)) (fun _=>rfl)
      rw[uh HQ] at hq'
      injection hq' with e1' e2' e3'
      subst e1' e2' e3'
      rw[uh HQ] at e0
      by_cases hltj:j < n
      ·obtain⟨g,rfl,hc⟩:=hcq j hltj
       have hk0:(0:Int)≤(k:Int):=Int.natCast_nonneg _
       have hk1:(k:Int) < (hn.length:Int):=by omega
       have hj0:(0:Int)≤(j:Int):=Int.natCast_nonneg _
       have hj1:(j:Int) < (n:Int):=by omega
       obtain⟨bm0,bm1⟩:=b2 hn[k] (List.getElem_mem hlt)
       generalize hn[k].2=m at e1 hc bm0 bm1
       have hc0:=hc 0 _ rfl
       simp only[Nat.mul_one,Nat.add_zero] at hc0
       clear hc
       have hmm:(m % 1000000007 == m % 1000000007)=true:=beq_iff_eq.2 rfl
       go_wp2_with fail
       go_quiet ((go_at_call 17;exact Calls.quiet_of_same (markRune_any _ _ bm0 bm1)))
       go_wp2
       go_roundw
       case rel=>exact⟨j+1,by omega,by go_num,by trivial,hb.trans ((below_drewN _ _).mono hb.size)⟩
       case measure=>simp[intOf];omega
      ·obtain rfl:j=n:=by omega
       go_wp2
       go_roundw
       case rel=>exact⟨k+1,by omega,by go_num,by trivial,hb⟩
       case measure=>simp[intOf];omega
    ·obtain rfl:k=hn.length:=by omega
     obtain⟨p1,k1,hp1,_⟩:=osl hr.r2
     rw[hp1] at c1
     clear hp1
     go_wp2_with fail
     go_loopw [3,8] (fun ok i wr=>∃ k:Nat,k≤he.length∧i = .int .i64 k∧ok = .bool true∧Below w.heap.size w wr) (fun _ i _=>he.length - (intOf i).toNat)
     case atStart=>exact⟨0,Nat.zero_le _,rfl,rfl,hb⟩
     case round =>
      clear hr c1 hb
      obtain⟨k,hk,rfl,rfl,hb⟩:=hrel
      have hr:=h.below hb
      have c1:=hr.c3
      by_cases hlt:k < he.length
      ·obtain⟨G,cap,hG,e0,e1⟩:=entry_at hr.r3 k hlt
       rw[hG] at c1
       obtain⟨q,n,cq,hq,hn9,hcq⟩:=marked_at (hr.m3 he[k] (List.getElem_mem hlt)) (fun _=>rfl)
       rw[hq] at e0
       have HQ:=hde hq
       have HG:=hde hG
       clear hq hG
       go_wp2_with fail
       go_loopw [3,9] (fun ok i wr=>∃ j:Nat,j≤n∧i = .int .i64 j∧ok = .bool true∧Below w.heap.size w wr) (fun _ i _=>n - (intOf i).toNat)
       case atStart=>exact⟨0,Nat.zero_le _,rfl,rfl,hb⟩
       case round =>
        clear hr c1 e0 e1 hcq hb
        obtain⟨j,hj,rfl,rfl,hb⟩:=hrel
        have hr:=h.below hb
        have c1:=hr.c3
        rw[uh HG] at c1
        obtain⟨G',cap',e',e0,e1⟩:=entry_at hr.r3 k hlt
        rw[uh HG] at e'
        injection e' with e' _ e''
        injection e' with e'
        injection e' with e'
        subst e' e''
        obtain⟨q',n',cq',hq',_,hcq⟩:=marked_at (hr.m3 he[k] (List.getElem_mem hlt)) (fun _=>rfl)
        rw[uh HQ] at hq'
        injection hq' with e1' e2' e3'
        subst e1' e2' e3'
        rw[uh HQ] at e0
        by_cases hltj:j < n
        ·obtain⟨g,rfl,hc⟩:=hcq j hltj
         have hk0:(0:Int)≤(k:Int):=Int.natCast_nonneg _
         have hk1:(k:Int) < (he.length:Int):=by omega
         have hj0:(0:Int)≤(j:Int):=Int.natCast_nonneg _
         have hj1:(j:Int) < (n:Int):=by omega
         obtain⟨bm0,bm1⟩:=b3 he[k] (List.getElem_mem hlt)
         generalize he[k].2=m at e1 hc bm0 bm1
         have d0:=hc 0 _ rfl
         have d1:=hc 1 _ rfl
         have d2:=hc 2 _ rfl
         simp only[Nat.add_zero] at d0
         clear hc
         have hmm:(m == m)=true:=beq_iff_eq.2 rfl
         have hmm':(-m == -m)=true:=beq_iff_eq.2 rfl
         have z0:=World.block_lt_of_cell? wr _ c1
         have z1:=World.block_lt_of_cell? wr _ e0
         have z2:=World.block_lt_of_cell? wr _ d0
         go_wp2_with fail
         go_region_held3 (fun w'=>w'.cell? ⟨H,3,none⟩=some (.slice (some ⟨G,0,none⟩) he.length cap)∧w'.cell? ⟨G,k * 2,none⟩=some (.slice (some ⟨g,0,none⟩) n cq)∧w'.cell? ⟨G,k * 2+1,none⟩=some (.int .i64 m)∧w'.cell? ⟨g,j * 3,none⟩=some (.int .i64 m)∧w'.cell? ⟨g,j * 3+1,none⟩=some (.int .i64 (-m))∧w'.cell? ⟨g,j * 3+2,none⟩=some (.int .i64 m))
          (first | (go_keep;done))
          (first | (go_at_call 18;refine(markEdge_any m _ bm0 bm1).mono ?_;rintro e w' ⟨rfl,rfl⟩))
         go_wp2
         go_roundw
         case rel=>exact⟨j+1,by omega,by go_num,by trivial,(hb.alloc hb.size _).drew⟩
         case measure=>simp[intOf];omega
        ·obtain rfl:j=n:=by omega
         go_wp2
         go_roundw
         case rel=>exact⟨k+1,by omega,by go_num,by trivial,hb⟩
         case measure=>simp[intOf];omega
      ·obtain rfl:k=he.length:=by omega
       obtain⟨p1,k1,hp1,_⟩:=osl hr.r3
       rw[hp1] at c1
       clear hp1
       go_wp2_with fail
       go_loopw [3,10] (fun ok i wr=>i = .int .i64 0∧ok = .bool true∧Below w.heap.size w wr) (fun _ _ _=>0)
       case atStart=>exact⟨rfl,rfl,hb⟩
       case round =>
        clear hr c1 hb
        obtain⟨rfl,rfl,hb⟩:=hrel
        have c4:=(h.below hb).c4
        go_wp2_with fail
        go_loopw [3,12] (fun ok i wr=>i = .int .i64 0∧ok = .bool true∧Below w.heap.size w wr) (fun _ _ _=>0)
        case atStart=>exact⟨rfl,rfl,hb⟩
        case round =>
         clear c4 hb
         obtain⟨rfl,rfl,hb⟩:=hrel
         have c5:=(h.below hb).c5
         go_wp2
         go_ret
         exact⟨rfl,hb⟩
end Go.Proofs.YteflnddphpjahaaGreatDoor
