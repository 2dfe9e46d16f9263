import Derived.Test.YteflnddphpjahaaGreatDoorCmRefI
import Derived.Outline
import Derived.Deep.DeepMust
import Derived.Deep.QuietTactic
import Derived.BigQuiet
import Derived.Test.YteflnddphpjahaaGreatDoorCmPlAtoRefA
import Derived.Test.YteflnddphpjahaaGreatDoorCmRefBtoGMem
import Derived.Deep.RegionHeld3
import Derived.Test.YteflnddphpjahaaGreatDoorCmShelf
import Derived.Laws.IdiomStrings
import Derived.Laws.OwnMore
set_option linter.unusedVariables false
set_option linter.unusedSimpArgs false
set_option maxRecDepth 100000
set_option maxHeartbeats 16000000
namespace Go.Proofs.YteflnddphpjahaaGreatDoor
open Go.RowKit
def IntsAt (w:World) (k:IntKind) (p:Option Addr) (V:List Int):Prop := ∀ j (h:j < V.length),∃ g,p=some ⟨g,0,none⟩∧g < w.heap.size∧w.cell? ⟨g,j,none⟩=some (.int k V[j])
theorem IntsAt.below {w w':World} {k:IntKind} {p:Option Addr} {V:List Int} (h:IntsAt w k p V) (hb:Below w.heap.size w w'):IntsAt w' k p V:=fun j hj=>by
 obtain⟨g,a,b,c⟩:=h j hj
 have:=hb.size
 exact⟨g,a,by omega,(hb.cell (p:=⟨g,j,none⟩) b).trans c⟩
theorem ints_of_own {w:World} {B e:Nat} {k:IntKind} {v:Value} {V:List Int} (h:w.ownsRow B e 1 v V.length (V.map (Value.int k))):∃ p cap,v = .slice p V.length cap∧IntsAt w k p V:=by
 obtain⟨p,cap,hv,hc⟩:=osl h
 refine⟨p,cap,hv,fun j hj=>?_⟩
 obtain⟨g,hp,_,hg,c0⟩:=hc j (by omega)
 exact⟨g,hp,hg,by rw[c0];simp[hj]⟩
def EdgesAt (w:World) (p:Option Addr) (E:List Sp.Ed):Prop := ∀ j (h:j < E.length),∃ g,p=some ⟨g,0,none⟩∧g < w.heap.size∧w.cell? ⟨g,j * 3,none⟩=some (.int .i64 (E[j].frm:Int))∧w.cell? ⟨g,j * 3+1,none⟩=some (.int .i64 (E[j].to:Int))∧w.cell? ⟨g,j * 3+2,none⟩=some (.int .i64 E[j].n)
theorem EdgesAt.below {w w':World} {p:Option Addr} {E:List Sp.Ed} (h:EdgesAt w p E) (hb:Below w.heap.size w w'):EdgesAt w' p E:=fun j hj=>by
 obtain⟨g,a,b,c0,c1,c2⟩:=h j hj
 have:=hb.size
 exact⟨g,a,by omega,(hb.cell (p:=⟨g,_,none⟩) b).trans c0,(hb.cell (p:=⟨g,_,none⟩) b).trans c1,(hb.cell (p:=⟨g,_,none⟩) b).trans c2⟩
theorem ed_get (E:List Sp.Ed):∀ (k:Nat) (h:k < E.length),(edCells E)[k * 3]? = some (.int .i64 (E[k].frm:Int))∧(edCells E)[k * 3+1]? = some (.int .i64 (E[k].to:Int))∧(edCells E)[k * 3+2]? = some (.int .i64 E[k].n):=by
 induction E with
 | nil=>intro k h;simp at h
 | cons l E ih =>
  intro k h
  cases k with
  | zero=>exact⟨rfl,rfl,rfl⟩
  | succ k =>
   have:=ih k (by simpa using h)
   have e:edCells (l :: E)=[Value.int .i64 (l.frm:Int),.int .i64 (l.to:Int),.int .i64 l.n]++edCells E:=rfl
   have a0:(k+1) * 3=k * 3+3:=by omega
   rw[e,a0]
   simp only[List.cons_append,List.nil_append,List.getElem_cons_succ]
   exact this
theorem edges_of_own {w:World} {B e:Nat} {v:Value} {E:List Sp.Ed} (h:w.ownsRow B e 3 v E.length (edCells E)):∃ p cap,v = .slice p E.length cap∧EdgesAt w p E:=by
 obtain⟨p,cap,hv,hc⟩:=osl h
 refine⟨p,cap,hv,fun k hk=>?_⟩
 obtain⟨e0,e1,e2⟩:=ed_get E k hk
 obtain⟨g,hp,_,hg,c0⟩:=hc (k * 3) (by omega)
 obtain⟨g1,hp1,_,_,c1⟩:=hc (k * 3+1) (by omega)
 obtain⟨g2,hp2,_,_,c2⟩:=hc (k * 3+2) (by omega)
 have q1:g1=g:=by rw[hp] at hp1;injection hp1 with q;injection q with q;exact q.symm
 have q2:g2=g:=by rw[hp] at hp2;injection hp2 with q;injection q with q;exact q.symm
 subst q1 q2
 exact⟨_,hp,hg,c0.trans e0,c1.trans e1,c2.trans e2⟩
def nameB (r:Int):Bool:=decide (¬ (r=32∨r=62))
theorem isName_any (r:Int) (w:World):Calls Tryz.prog 245 #[.int .i32 r] w fun e w'=>e = .returned (.bool (nameB r))∧w'=w:=by
 by_cases h1:r=32
 ·have e1:nameB r=false:=by simp[nameB,h1]
  have g1:(r != 32)=false:=by simp[h1]
  rw[e1]
  clear h1 e1
  go_enter Tryz.func245,Tryz.ntmps245
  go_wp2
  go_ret
  exact⟨rfl,rfl⟩
 ·have g1:(r != 32)=true:=by simp[h1]
  by_cases h2:r=62
  ·have e1:nameB r=false:=by simp[nameB,h2]
   have g2:(r != 62)=false:=by simp[h2]
   rw[e1]
   clear h1 h2 e1
   go_enter Tryz.func245,Tryz.ntmps245
   go_wp2
   go_ret
   exact⟨rfl,rfl⟩
  ·have e1:nameB r=true:=by simp[nameB,h1,h2]
   have g2:(r != 62)=true:=by simp[h2]
   rw[e1]
   clear h1 h2 e1
   go_enter Tryz.func245,Tryz.ntmps245
   go_wp2
   go_ret
   exact⟨rfl,rfl⟩
def vhB (r:List Int):Bool:=decide (2≤r.length) && (nameB (r.getD 0 0) && (r.getD 1 0 == 32))
def ehB (r:List Int):Bool:=decide (4≤r.length) && (nameB (r.getD 0 0) && ((r.getD 1 0 == 62) && (nameB (r.getD 2 0) && (r.getD 3 0 == 32))))
theorem ints_get {w:World} {k:IntKind} {p:Option Addr} {V:List Int} (h:IntsAt w k p V) (j:Nat) (hj:j < V.length):∃ g,p=some ⟨g,0,none⟩∧w.cell? ⟨g,j,none⟩=some (.int k (V.getD j 0)):=by
 obtain⟨g,a,_,b⟩:=h j hj
 exact⟨g,a,by rw[b];simp[hj]⟩
theorem vertexHead_any (p:Option Addr) (cap:Nat) (r:List Int) (w:World) (h:IntsAt w .i32 p r) (hl:r.length≤5000) :
  Calls Tryz.prog 162 #[.slice p r.length cap] w fun e w'=>e = .returned (.bool (vhB r))∧w'=w:=by
 by_cases h2:2≤r.length
 ·obtain⟨g,rfl,c0⟩:=ints_get h 0 (by omega)
  obtain⟨g1,e1,c1⟩:=ints_get h 1 (by omega)
  injection e1 with e1
  injection e1 with e1
  subst e1
  have ev:vhB r=(nameB (r.getD 0 0) && (r.getD 1 0 == 32)):=by unfold vhB;rw[decide_eq_true h2];rfl
  rw[ev]
  clear ev h
  generalize r.getD 0 0=a at c0
  generalize r.getD 1 0=b at c1
  have h2':2≤((r.length:Nat):Int):=by omega
  have z0:(0:Int) < ((r.length:Nat):Int):=by omega
  have z1:(1:Int) < ((r.length:Nat):Int):=by omega
  cases hn:nameB a with
  | false =>
   have HN:=hde hn
   clear hn
   go_enter Tryz.func162,Tryz.ntmps162
   go_wp2_with (go_at_call 245;refine(isName_any _ _).mono ?_;rintro e w' ⟨rfl,rfl⟩;rw[uh HN])
   go_ret
   exact⟨rfl,rfl⟩
  | true =>
   have HN:=hde hn
   clear hn
   go_enter Tryz.func162,Tryz.ntmps162
   go_wp2_with (go_at_call 245;refine(isName_any _ _).mono ?_;rintro e w' ⟨rfl,rfl⟩;rw[uh HN])
   go_ret
   exact⟨rfl,rfl⟩
 ·have ev:vhB r=false:=by unfold vhB;rw[decide_eq_false h2];rfl
  rw[ev]
  have h2':((r.length:Nat):Int) < 2:=by omega
  go_enter Tryz.func162,Tryz.ntmps162
  go_wp2
  go_ret
  exact⟨rfl,rfl⟩
theorem edgeHead_any (p:Option Addr) (cap:Nat) (r:List Int) (w:World) (h:IntsAt w .i32 p r) (hl:r.length≤5000) :
  Calls Tryz.prog 164 #[.slice p r.length cap] w fun e w'=>e = .returned (.bool (ehB r))∧w'=w:=by
 by_cases h2:4≤r.length
 ·obtain⟨g,rfl,c0⟩:=ints_get h 0 (by omega)
  obtain⟨g1,e1,c1⟩:=ints_get h 1 (by omega)
  injection e1 with e1
  injection e1 with e1
  subst e1
  obtain⟨g2,e2,c2⟩:=ints_get h 2 (by omega)
  injection e2 with e2
  injection e2 with e2
  subst e2
  obtain⟨g3,e3,c3⟩:=ints_get h 3 (by omega)
  injection e3 with e3
  injection e3 with e3
  subst e3
  have ev:ehB r=(nameB (r.getD 0 0) && ((r.getD 1 0 == 62) && (nameB (r.getD 2 0) && (r.getD 3 0 == 32)))):=by unfold ehB;rw[decide_eq_true h2];rfl
  rw[ev]
  clear ev h
  generalize r.getD 0 0=a at c0
  generalize r.getD 1 0=b at c1
  generalize r.getD 2 0=c at c2
  generalize r.getD 3 0=d at c3
  have h2':4≤((r.length:Nat):Int):=by omega
  have z0:(0:Int) < ((r.length:Nat):Int):=by omega
  have z1:(1:Int) < ((r.length:Nat):Int):=by omega
  have z2:(2:Int) < ((r.length:Nat):Int):=by omega
  have z3:(3:Int) < ((r.length:Nat):Int):=by omega
  cases hn:nameB a with
  | false =>
   go_enter Tryz.func164,Tryz.ntmps164
   go_wp2_with (go_at_call 245;refine(isName_any _ _).mono ?_;rintro e w' ⟨rfl,rfl⟩)
   go_ret
   exact⟨by simp,rfl⟩
  | true =>
   cases hb:(b == 62) with
   | false =>
    go_enter Tryz.func164,Tryz.ntmps164
    go_wp2_with (go_at_call 245;refine(isName_any _ _).mono ?_;rintro e w' ⟨rfl,rfl⟩)
    go_ret
    exact⟨by simp,rfl⟩
   | true =>
    cases hc:nameB c with
    | false =>
     go_enter Tryz.func164,Tryz.ntmps164
     go_wp2_with (go_at_call 245;refine(isName_any _ _).mono ?_;rintro e w' ⟨rfl,rfl⟩)
     go_ret
     exact⟨by simp,rfl⟩
    | true =>
     go_enter Tryz.func164,Tryz.ntmps164
     go_wp2_with (go_at_call 245;refine(isName_any _ _).mono ?_;rintro e w' ⟨rfl,rfl⟩)
     go_ret
     exact⟨by simp,rfl⟩
 ·have ev:ehB r=false:=by unfold ehB;rw[decide_eq_false h2];rfl
  rw[ev]
  have h2':((r.length:Nat):Int) < 4:=by omega
  go_enter Tryz.func164,Tryz.ntmps164
  go_wp2
  go_ret
  exact⟨rfl,rfl⟩
def plVal (k a b n:Int):Value := .agg #[.int .i64 k,.int .i32 a,.int .i32 b,.int .i64 n]
def lnP (l:Sp.Ln):Value:=if l.edge=true then plVal 2 l.frm l.to l.n else plVal 1 l.frm 0 l.n
def LinePost (r:List Int) (w:World) (e:Ending) (w':World):Prop :=
 Below w.heap.size w w' ∧
 match r with
 | []=>e = .returned (.tuple #[plVal 0 0 0 0,.bool true])
 | _ :: _=>match Sp.lnOf r with
  | some l=>e = .returned (.tuple #[lnP l,.bool true])
  | none=>∃ k a b n:Int,e = .returned (.tuple #[plVal k a b n,.bool false])
theorem ln_v {r:List Int} (h:vhB r=true):Sp.lnOf r=(Sp.numOf (r.drop 2)).map fun n=>⟨false,r.getD 0 0,0,n⟩:=by
 match r,h with
 | [],h=>simp[vhB] at h
 | [_],h=>simp[vhB] at h
 | a :: b :: t,h =>
  simp[vhB,nameB] at h
  obtain⟨⟨h1,h2⟩,h3⟩:=h
  subst h3
  simp[Sp.lnOf,h1,h2]
theorem ln_e {r:List Int} (hv:vhB r=false) (h:ehB r=true):Sp.lnOf r=(Sp.numOf (r.drop 4)).map fun n=>⟨true,r.getD 0 0,r.getD 2 0,n⟩:=by
 match r,h with
 | [],h=>simp[ehB] at h
 | [_],h=>simp[ehB] at h
 | [_,_],h=>simp[ehB] at h
 | [_,_,_],h=>simp[ehB] at h
 | a :: b :: c :: d :: u,h =>
  simp[ehB,nameB] at h
  obtain⟨⟨h1,h2⟩,h3,⟨h4,h5⟩,h6⟩:=h
  subst h3 h6
  simp[Sp.lnOf,h1,h2,h4,h5]
theorem ln_no {r:List Int} (hv:vhB r=false) (h:ehB r=false):Sp.lnOf r=none:=by
 match r,hv,h with
 | [],_,_=>rfl
 | [_],_,_=>rfl
 | [a,b],hv,_ =>
  simp[vhB,nameB] at hv
  simp only[Sp.lnOf]
  by_cases h1:a=32∨a=62
  ·rw[if_pos h1]
  ·rw[if_neg h1]
   have h2:¬ b=32:=fun e=>by
    have:=hv (fun x=>h1 (Or.inl x)) (fun x=>h1 (Or.inr x));exact this e
   rw[if_neg h2]
   split <;> rfl
 | [a,b,c],hv,_ =>
  simp[vhB,nameB] at hv
  simp only[Sp.lnOf]
  by_cases h1:a=32∨a=62
  ·rw[if_pos h1]
  ·rw[if_neg h1]
   have h2:¬ b=32:=fun e=>by
    have:=hv (fun x=>h1 (Or.inl x)) (fun x=>h1 (Or.inr x));exact this e
   rw[if_neg h2]
   split <;> rfl
 | a :: b :: c :: d :: u,hv,h =>
  simp[vhB,nameB] at hv
  simp[ehB,nameB] at h
  simp only[Sp.lnOf]
  by_cases h1:a=32∨a=62
  ·rw[if_pos h1]
  ·rw[if_neg h1]
   have h2:¬ b=32:=fun e=>by
    have:=hv (fun x=>h1 (Or.inl x)) (fun x=>h1 (Or.inr x));exact this e
   rw[if_neg h2]
   by_cases h3:b=62
   ·rw[if_pos h3]
    by_cases h4:c=32∨c=62
    ·rw[if_pos h4]
    ·rw[if_neg h4]
     have h5:¬ d=32:=fun e=>h (fun x=>h1 (Or.inl x)) (fun x=>h1 (Or.inr x)) h3 (fun x=>h4 (Or.inl x)) (fun x=>h4 (Or.inr x)) e
     rw[if_neg h5]
   ·rw[if_neg h3]
theorem post_no {r:List Int} {w w':World} {k a b n:Int} (hne:r≠[]) (h:Sp.lnOf r=none) (hb:Below w.heap.size w w'):LinePost r w (.returned (.tuple #[plVal k a b n,.bool false])) w':=by
 refine⟨hb,?_⟩
 cases r with
 | nil=>exact absurd rfl hne
 | cons x t=>rw[h];exact⟨k,a,b,n,rfl⟩
theorem post_yes {r:List Int} {w w':World} {l:Sp.Ln} (h:Sp.lnOf r=some l) (hb:Below w.heap.size w w'):LinePost r w (.returned (.tuple #[lnP l,.bool true])) w':=by
 refine⟨hb,?_⟩
 cases r with
 | nil=>cases h
 | cons x t=>rw[h]
theorem readLine_empty (p:Option Addr) (cap:Nat) (w:World):Calls Tryz.prog 113 #[.slice p 0 cap] w (LinePost [] w):=by
 go_enter Tryz.func113,Tryz.ntmps113
 go_wp2
 exact bodyPost_ret (v := .tuple #[plVal 0 0 0 0,.bool true]) (by simp[results,Tryz.results113,go_sem,plVal]) rfl ⟨(Below.refl _ _).alloc nlr _,rfl⟩
theorem readLine_no (p:Option Addr) (cap:Nat) (r:List Int) (w:World) (h:IntsAt w .i32 p r) (hl:r.length≤5000) (hne:r≠[]) (hv:vhB r=false) (he:ehB r=false) :
  Calls Tryz.prog 113 #[.slice p r.length cap] w (LinePost r w):=by
 have hlen:0 < r.length:=by cases r with | nil=>exact absurd rfl hne | cons _ _=>simp
 have h0:(((r.length:Nat):Int) == 0)=false:=beq_eq_false_iff_ne.2 (by omega)
 have HL:=hde (ln_no hv he)
 have hb:Below w.heap.size w (w.alloc (.cells #[.int .i64 0,.int .i32 0,.int .i32 0,.int .i64 0] 238)):=(Below.refl _ _).alloc nlr _
 go_enter Tryz.func113,Tryz.ntmps113
 go_wp2_with fail
 refine(vertexHead_any p cap r _ (h.below hb) hl).mono ?_
 rintro e w' ⟨rfl,hw⟩
 obtain rfl:=hw.symm
 rw[hv]
 go_wp2_with fail
 refine(edgeHead_any p cap r _ (h.below hb) hl).mono ?_
 rintro e w' ⟨rfl,hw⟩
 obtain rfl:=hw.symm
 rw[he]
 go_wp2
 exact bodyPost_ret (v := .tuple #[plVal 0 0 0 0,.bool false]) (by simp[results,Tryz.results113,go_sem,plVal]) rfl (post_no hne (uh HL) hb)
theorem conv_drop (w:World) (g c n0:Nat) (r:List Int) (h:IntsAt w .i32 (some ⟨g,0,none⟩) r) (hn:n0≤r.length) :
  (convert 59 9 (.slice (some ⟨g,n0,none⟩) (r.length - n0) c)).run Tryz.prog w = .ok (.string (runesBytes (r.drop n0))) w:=by
 have:=run_convert_runes (P:=Tryz.prog) w 59 9 21 ⟨g,n0,none⟩ (r.length - n0) c (r.drop n0) (by simp) Tryz.underlying59 Tryz.underlying21 Tryz.underlying9 (by
  intro j hj
  rw[List.length_drop] at hj
  obtain⟨g',e,_,hc⟩:=h (n0+j) (by omega)
  injection e with e
  injection e with e
  subst e
  rw[Addr.add_lit,hc]
  simp[List.getD,List.getElem?_drop,List.getElem?_eq_getElem (show n0+j < r.length by omega)])
 rw[this,List.take_of_length_le (by simp)]
theorem conv_none (w:World) (g c:Nat) (r:List Int) (n0:Nat) (hn:r.length=n0) :
  (convert 59 9 (.slice (some ⟨g,0,none⟩) 0 c)).run Tryz.prog w = .ok (.string (runesBytes (r.drop n0))) w:=by
 have:=run_convert_runes (P:=Tryz.prog) w 59 9 21 ⟨g,0,none⟩ 0 c [] (by simp) Tryz.underlying59 Tryz.underlying21 Tryz.underlying9 (by intro j hj;simp at hj)
 rw[this,List.drop_of_length_le (by omega),List.take_nil]
theorem readLine_v (g cap:Nat) (r:List Int) (w:World) (h:IntsAt w .i32 (some ⟨g,0,none⟩) r) (hl:r.length≤5000) (hc:r.length≤cap) (hcm:cap≤maxLen) (hv:vhB r=true) (hsz:(runesBytes (r.drop 2)).size≤4000) (hbd:∀ y ∈ r,0≤y∧y≤1114111) :
  Calls Tryz.prog 113 #[.slice (some ⟨g,0,none⟩) r.length cap] w (LinePost r w):=by
 have hlen:2≤r.length:=by
  apply Decidable.byContradiction;intro hx
  unfold vhB at hv;rw[decide_eq_false hx] at hv;cases hv
 have hne:r≠[]:=fun e=>by rw[e] at hlen;simp at hlen
 have h0:(((r.length:Nat):Int) == 0)=false:=beq_eq_false_iff_ne.2 (by omega)
 have HL:=hde (ln_v hv)
 have hb:Below w.heap.size w (w.alloc (.cells #[.int .i64 0,.int .i32 0,.int .i32 0,.int .i64 0] 238)):=(Below.refl _ _).alloc nlr _
 have h1:=h.below hb
 obtain⟨_,e0,x0⟩:=ints_get h 0 (by omega)
 injection e0 with e0
 injection e0 with e0
 subst e0
 unfold maxLen at hcm
 have z0:(0:Int) < ((r.length:Nat):Int):=by omega
 have hgl:=World.block_lt_of_cell? w _ x0
 generalize hQ:runesBytes (r.drop 2)=Q at hsz
 have HQ:=hde hQ
 have HW:Hid (Calls Tryz.prog 163 #[.string Q] (w.alloc (.cells #[.int .i64 0,.int .i32 0,.int .i32 0,.int .i64 0] 238)) fun e w'=>e = .returned (numOut (Sp.number Q.data.toList))∧Below (w.alloc (.cells #[.int .i64 0,.int .i32 0,.int .i32 0,.int .i64 0] 238)).heap.size (w.alloc (.cells #[.int .i64 0,.int .i32 0,.int .i32 0,.int .i64 0] 238)) w'):=numRead_any Q _ hsz
 by_cases hcap:cap=2
 ·subst hcap
  have hr2:r.length=2:=by omega
  have hcv:=conv_none (w.alloc (.cells #[.int .i64 0,.int .i32 0,.int .i32 0,.int .i64 0] 238)) g 0 r 2 hr2
  rw[hQ] at hcv
  clear hQ hr2
  go_enter Tryz.func113,Tryz.ntmps113
  go_wp2_with fail
  refine(vertexHead_any _ _ r _ h1 hl).mono ?_
  rintro e w' ⟨rfl,hw⟩
  obtain rfl:=hw.symm
  rw[hv]
  clear hl
  go_wp2_with fail
  refine(uh HW).mono ?_
  rintro e w2 ⟨rfl,hb2⟩
  have y0:=hb2.cell (p:=⟨w.heap.size,0,none⟩) (by simp)
  have y1:=hb2.cell (p:=⟨w.heap.size,1,none⟩) (by simp)
  have y2:=hb2.cell (p:=⟨w.heap.size,2,none⟩) (by simp)
  have y3:=hb2.cell (p:=⟨w.heap.size,3,none⟩) (by simp)
  have v0:=hb2.frozen (p:=⟨w.heap.size,0,none⟩) (by simp)
  have v1:=hb2.frozen (p:=⟨w.heap.size,1,none⟩) (by simp)
  have v2:=hb2.frozen (p:=⟨w.heap.size,2,none⟩) (by simp)
  have v3:=hb2.frozen (p:=⟨w.heap.size,3,none⟩) (by simp)
  have x0':=(hb2.cell (p:=⟨g,0,none⟩) (by simp;omega)).trans (far_cell hgl x0)
  have hz:=hb2.size
  simp at y0 y1 y2 y3 v0 v1 v2 v3 hz
  have hbf:=hb.trans (hb2.mono (by simp))
  cases hq:Sp.number Q.data.toList with
  | none =>
   have HN:Hid (Sp.lnOf r=none):=by show _=_;rw[uh HL];unfold Sp.numOf;rw[uh HQ,hq];rfl
   rw[numOut_none]
   clear hb2
   go_wp2
   exact bodyPost_ret (v := .tuple #[plVal 1 (r.getD 0 0) 0 0,.bool false]) (by simp[results,Tryz.results113,go_sem,plVal,y0,y1,y2,y3]) rfl (post_no hne (uh HN) ((((hbf.setCell nlr _).setCell nlr _).setCell nlr _).setCell nlr _))
  | some v =>
   have HN:Hid (Sp.lnOf r=some ⟨false,r.getD 0 0,0,v⟩):=by show _=_;rw[uh HL];unfold Sp.numOf;rw[uh HQ,hq];rfl
   rw[numOut_some]
   clear hb2
   go_wp2
   exact bodyPost_ret (v := .tuple #[lnP ⟨false,r.getD 0 0,0,v⟩,.bool true]) (by simp[results,Tryz.results113,go_sem,plVal,lnP,y0,y1,y2,y3]) rfl (post_yes (uh HN) ((((hbf.setCell nlr _).setCell nlr _).setCell nlr _).setCell nlr _))
 ·have hcv:=conv_drop (w.alloc (.cells #[.int .i64 0,.int .i32 0,.int .i32 0,.int .i64 0] 238)) g (cap - 2) 2 r h1 hlen
  rw[hQ] at hcv
  clear hQ
  have hcap':2 < cap:=by omega
  go_enter Tryz.func113,Tryz.ntmps113
  go_wp2_with fail
  refine(vertexHead_any _ _ r _ h1 hl).mono ?_
  rintro e w' ⟨rfl,hw⟩
  obtain rfl:=hw.symm
  rw[hv]
  clear hl
  go_wp2_with fail
  refine(uh HW).mono ?_
  rintro e w2 ⟨rfl,hb2⟩
  have y0:=hb2.cell (p:=⟨w.heap.size,0,none⟩) (by simp)
  have y1:=hb2.cell (p:=⟨w.heap.size,1,none⟩) (by simp)
  have y2:=hb2.cell (p:=⟨w.heap.size,2,none⟩) (by simp)
  have y3:=hb2.cell (p:=⟨w.heap.size,3,none⟩) (by simp)
  have v0:=hb2.frozen (p:=⟨w.heap.size,0,none⟩) (by simp)
  have v1:=hb2.frozen (p:=⟨w.heap.size,1,none⟩) (by simp)
  have v2:=hb2.frozen (p:=⟨w.heap.size,2,none⟩) (by simp)
  have v3:=hb2.frozen (p:=⟨w.heap.size,3,none⟩) (by simp)
  have x0':=(hb2.cell (p:=⟨g,0,none⟩) (by simp;omega)).trans (far_cell hgl x0)
  have hz:=hb2.size
  simp at y0 y1 y2 y3 v0 v1 v2 v3 hz
  have hbf:=hb.trans (hb2.mono (by simp))
  cases hq:Sp.number Q.data.toList with
  | none =>
   have HN:Hid (Sp.lnOf r=none):=by show _=_;rw[uh HL];unfold Sp.numOf;rw[uh HQ,hq];rfl
   rw[numOut_none]
   clear hb2
   go_wp2
   exact bodyPost_ret (v := .tuple #[plVal 1 (r.getD 0 0) 0 0,.bool false]) (by simp[results,Tryz.results113,go_sem,plVal,y0,y1,y2,y3]) rfl (post_no hne (uh HN) ((((hbf.setCell nlr _).setCell nlr _).setCell nlr _).setCell nlr _))
  | some v =>
   have HN:Hid (Sp.lnOf r=some ⟨false,r.getD 0 0,0,v⟩):=by show _=_;rw[uh HL];unfold Sp.numOf;rw[uh HQ,hq];rfl
   rw[numOut_some]
   clear hb2
   go_wp2
   exact bodyPost_ret (v := .tuple #[lnP ⟨false,r.getD 0 0,0,v⟩,.bool true]) (by simp[results,Tryz.results113,go_sem,plVal,lnP,y0,y1,y2,y3]) rfl (post_yes (uh HN) ((((hbf.setCell nlr _).setCell nlr _).setCell nlr _).setCell nlr _))
theorem readLine_e (g cap:Nat) (r:List Int) (w:World) (h:IntsAt w .i32 (some ⟨g,0,none⟩) r) (hl:r.length≤5000) (hc:r.length≤cap) (hcm:cap≤maxLen) (hv:vhB r=false) (he:ehB r=true) (hsz:(runesBytes (r.drop 4)).size≤4000) (hbd:∀ y ∈ r,0≤y∧y≤1114111) :
  Calls Tryz.prog 113 #[.slice (some ⟨g,0,none⟩) r.length cap] w (LinePost r w):=by
 have hlen:4≤r.length:=by
  apply Decidable.byContradiction;intro hx
  unfold ehB at he;rw[decide_eq_false hx] at he;cases he
 have hne:r≠[]:=fun e=>by rw[e] at hlen;simp at hlen
 have h0:(((r.length:Nat):Int) == 0)=false:=beq_eq_false_iff_ne.2 (by omega)
 have hL:=ln_e hv he
 have hb:Below w.heap.size w (w.alloc (.cells #[.int .i64 0,.int .i32 0,.int .i32 0,.int .i64 0] 238)):=(Below.refl _ _).alloc nlr _
 have h1:=h.below hb
 obtain⟨_,e0,x0⟩:=ints_get h 0 (by omega)
 injection e0 with e0
 injection e0 with e0
 subst e0
 unfold maxLen at hcm
 have z0:(0:Int) < ((r.length:Nat):Int):=by omega
 have hgl:=World.block_lt_of_cell? w _ x0
 obtain⟨_,e2,x2⟩:=ints_get h 2 (by omega)
 injection e2 with e2
 injection e2 with e2
 subst e2
 have z2:(2:Int) < ((r.length:Nat):Int):=by omega
 have z0n:0 < r.length:=by omega
 have z2n:2 < r.length:=by omega
 obtain⟨a0,ha0⟩:∃ a,r.getD 0 0=a:=⟨_,rfl⟩
 obtain⟨a2,ha2⟩:∃ a,r.getD 2 0=a:=⟨_,rfl⟩
 rw[ha0] at x0 hL
 rw[ha2] at x2 hL
 have HL:=hde hL
 clear hL ha0 ha2
 generalize hQ:runesBytes (r.drop 4)=Q at hsz
 have HQ:=hde hQ
 have HW:Hid (Calls Tryz.prog 163 #[.string Q] (w.alloc (.cells #[.int .i64 0,.int .i32 0,.int .i32 0,.int .i64 0] 238)) fun e w'=>e = .returned (numOut (Sp.number Q.data.toList))∧Below (w.alloc (.cells #[.int .i64 0,.int .i32 0,.int .i32 0,.int .i64 0] 238)).heap.size (w.alloc (.cells #[.int .i64 0,.int .i32 0,.int .i32 0,.int .i64 0] 238)) w'):=numRead_any Q _ hsz
 by_cases hcap:cap=4
 ·subst hcap
  have hr2:r.length=4:=by omega
  have hcv:=conv_none (w.alloc (.cells #[.int .i64 0,.int .i32 0,.int .i32 0,.int .i64 0] 238)) g 0 r 4 hr2
  rw[hQ] at hcv
  clear hQ hr2
  go_enter Tryz.func113,Tryz.ntmps113
  go_wp2_with fail
  refine(vertexHead_any _ _ r _ h1 hl).mono ?_
  rintro e w' ⟨rfl,hw⟩
  obtain rfl:=hw.symm
  rw[hv]
  go_wp2_with fail
  refine(edgeHead_any _ _ r _ h1 hl).mono ?_
  rintro e w' ⟨rfl,hw⟩
  obtain rfl:=hw.symm
  rw[he]
  clear hl
  go_wp2_with fail
  refine(uh HW).mono ?_
  rintro e w2 ⟨rfl,hb2⟩
  have y0:=hb2.cell (p:=⟨w.heap.size,0,none⟩) (by simp)
  have y1:=hb2.cell (p:=⟨w.heap.size,1,none⟩) (by simp)
  have y2:=hb2.cell (p:=⟨w.heap.size,2,none⟩) (by simp)
  have y3:=hb2.cell (p:=⟨w.heap.size,3,none⟩) (by simp)
  have v0:=hb2.frozen (p:=⟨w.heap.size,0,none⟩) (by simp)
  have v1:=hb2.frozen (p:=⟨w.heap.size,1,none⟩) (by simp)
  have v2:=hb2.frozen (p:=⟨w.heap.size,2,none⟩) (by simp)
  have v3:=hb2.frozen (p:=⟨w.heap.size,3,none⟩) (by simp)
  have x0':=(hb2.cell (p:=⟨g,0,none⟩) (by simp;omega)).trans (far_cell hgl x0)
  have x2':=(hb2.cell (p:=⟨g,2,none⟩) (by simp;omega)).trans (far_cell hgl x2)
  have hz:=hb2.size
  simp at y0 y1 y2 y3 v0 v1 v2 v3 hz
  have hbf:=hb.trans (hb2.mono (by simp))
  cases hq:Sp.number Q.data.toList with
  | none =>
   have HN:Hid (Sp.lnOf r=none):=by show _=_;rw[uh HL];unfold Sp.numOf;rw[uh HQ,hq];rfl
   rw[numOut_none]
   clear hb2
   have hgne:w.heap.size≠g:=by omega
   go_wp2_with fail
   go_region_held3 (fun w'=>w'.cell? ⟨g,0,none⟩=some (.int .i32 a0)∧w'.cell? ⟨g,2,none⟩=some (.int .i32 a2))
    (first | (go_keep;done) | (go_split_ands;exact⟨(World.cell?_setCell_other _ _ _ _ (by simp;omega)).trans ((World.cell?_setCell_other _ _ _ _ (by simp;omega)).trans ((World.cell?_setCell_other _ _ _ _ (by simp;omega)).trans ((World.cell?_setCell_other _ _ _ _ (by simp;omega)).trans x0'))),(World.cell?_setCell_other _ _ _ _ (by simp;omega)).trans ((World.cell?_setCell_other _ _ _ _ (by simp;omega)).trans ((World.cell?_setCell_other _ _ _ _ (by simp;omega)).trans ((World.cell?_setCell_other _ _ _ _ (by simp;omega)).trans x2')))⟩))
    (fail)
   go_wp2
   exact bodyPost_ret (v := .tuple #[plVal 2 a0 a2 0,.bool false]) (by simp[results,Tryz.results113,go_sem,plVal,y0,y1,y2,y3]) rfl (post_no hne (uh HN) ((((hbf.setCell nlr _).setCell nlr _).setCell nlr _).setCell nlr _).drew)
  | some v =>
   have HN:Hid (Sp.lnOf r=some ⟨true,a0,a2,v⟩):=by show _=_;rw[uh HL];unfold Sp.numOf;rw[uh HQ,hq];rfl
   rw[numOut_some]
   clear hb2
   have hgne:w.heap.size≠g:=by omega
   go_wp2_with fail
   go_region_held3 (fun w'=>w'.cell? ⟨g,0,none⟩=some (.int .i32 a0)∧w'.cell? ⟨g,2,none⟩=some (.int .i32 a2))
    (first | (go_keep;done) | (go_split_ands;exact⟨(World.cell?_setCell_other _ _ _ _ (by simp;omega)).trans ((World.cell?_setCell_other _ _ _ _ (by simp;omega)).trans ((World.cell?_setCell_other _ _ _ _ (by simp;omega)).trans ((World.cell?_setCell_other _ _ _ _ (by simp;omega)).trans x0'))),(World.cell?_setCell_other _ _ _ _ (by simp;omega)).trans ((World.cell?_setCell_other _ _ _ _ (by simp;omega)).trans ((World.cell?_setCell_other _ _ _ _ (by simp;omega)).trans ((World.cell?_setCell_other _ _ _ _ (by simp;omega)).trans x2')))⟩))
    (fail)
   go_wp2
   exact bodyPost_ret (v := .tuple #[lnP ⟨true,a0,a2,v⟩,.bool true]) (by simp[results,Tryz.results113,go_sem,plVal,lnP,y0,y1,y2,y3]) rfl (post_yes (uh HN) ((((hbf.setCell nlr _).setCell nlr _).setCell nlr _).setCell nlr _).drew)
 ·have hcv:=conv_drop (w.alloc (.cells #[.int .i64 0,.int .i32 0,.int .i32 0,.int .i64 0] 238)) g (cap - 4) 4 r h1 hlen
  rw[hQ] at hcv
  clear hQ
  have hcap':4 < cap:=by omega
  go_enter Tryz.func113,Tryz.ntmps113
  go_wp2_with fail
  refine(vertexHead_any _ _ r _ h1 hl).mono ?_
  rintro e w' ⟨rfl,hw⟩
  obtain rfl:=hw.symm
  rw[hv]
  go_wp2_with fail
  refine(edgeHead_any _ _ r _ h1 hl).mono ?_
  rintro e w' ⟨rfl,hw⟩
  obtain rfl:=hw.symm
  rw[he]
  clear hl
  go_wp2_with fail
  refine(uh HW).mono ?_
  rintro e w2 ⟨rfl,hb2⟩
  have y0:=hb2.cell (p:=⟨w.heap.size,0,none⟩) (by simp)
  have y1:=hb2.cell (p:=⟨w.heap.size,1,none⟩) (by simp)
  have y2:=hb2.cell (p:=⟨w.heap.size,2,none⟩) (by simp)
  have y3:=hb2.cell (p:=⟨w.heap.size,3,none⟩) (by simp)
  have v0:=hb2.frozen (p:=⟨w.heap.size,0,none⟩) (by simp)
  have v1:=hb2.frozen (p:=⟨w.heap.size,1,none⟩) (by simp)
  have v2:=hb2.frozen (p:=⟨w.heap.size,2,none⟩) (by simp)
  have v3:=hb2.frozen (p:=⟨w.heap.size,3,none⟩) (by simp)
  have x0':=(hb2.cell (p:=⟨g,0,none⟩) (by simp;omega)).trans (far_cell hgl x0)
  have x2':=(hb2.cell (p:=⟨g,2,none⟩) (by simp;omega)).trans (far_cell hgl x2)
  have hz:=hb2.size
  simp at y0 y1 y2 y3 v0 v1 v2 v3 hz
  have hbf:=hb.trans (hb2.mono (by simp))
  cases hq:Sp.number Q.data.toList with
  | none =>
   have HN:Hid (Sp.lnOf r=none):=by show _=_;rw[uh HL];unfold Sp.numOf;rw[uh HQ,hq];rfl
   rw[numOut_none]
   clear hb2
   have hgne:w.heap.size≠g:=by omega
   go_wp2_with fail
   go_region_held3 (fun w'=>w'.cell? ⟨g,0,none⟩=some (.int .i32 a0)∧w'.cell? ⟨g,2,none⟩=some (.int .i32 a2))
    (first | (go_keep;done) | (go_split_ands;exact⟨(World.cell?_setCell_other _ _ _ _ (by simp;omega)).trans ((World.cell?_setCell_other _ _ _ _ (by simp;omega)).trans ((World.cell?_setCell_other _ _ _ _ (by simp;omega)).trans ((World.cell?_setCell_other _ _ _ _ (by simp;omega)).trans x0'))),(World.cell?_setCell_other _ _ _ _ (by simp;omega)).trans ((World.cell?_setCell_other _ _ _ _ (by simp;omega)).trans ((World.cell?_setCell_other _ _ _ _ (by simp;omega)).trans ((World.cell?_setCell_other _ _ _ _ (by simp;omega)).trans x2')))⟩))
    (fail)
   go_wp2
   exact bodyPost_ret (v := .tuple #[plVal 2 a0 a2 0,.bool false]) (by simp[results,Tryz.results113,go_sem,plVal,y0,y1,y2,y3]) rfl (post_no hne (uh HN) ((((hbf.setCell nlr _).setCell nlr _).setCell nlr _).setCell nlr _).drew)
  | some v =>
   have HN:Hid (Sp.lnOf r=some ⟨true,a0,a2,v⟩):=by show _=_;rw[uh HL];unfold Sp.numOf;rw[uh HQ,hq];rfl
   rw[numOut_some]
   clear hb2
   have hgne:w.heap.size≠g:=by omega
   go_wp2_with fail
   go_region_held3 (fun w'=>w'.cell? ⟨g,0,none⟩=some (.int .i32 a0)∧w'.cell? ⟨g,2,none⟩=some (.int .i32 a2))
    (first | (go_keep;done) | (go_split_ands;exact⟨(World.cell?_setCell_other _ _ _ _ (by simp;omega)).trans ((World.cell?_setCell_other _ _ _ _ (by simp;omega)).trans ((World.cell?_setCell_other _ _ _ _ (by simp;omega)).trans ((World.cell?_setCell_other _ _ _ _ (by simp;omega)).trans x0'))),(World.cell?_setCell_other _ _ _ _ (by simp;omega)).trans ((World.cell?_setCell_other _ _ _ _ (by simp;omega)).trans ((World.cell?_setCell_other _ _ _ _ (by simp;omega)).trans ((World.cell?_setCell_other _ _ _ _ (by simp;omega)).trans x2')))⟩))
    (fail)
   go_wp2
   exact bodyPost_ret (v := .tuple #[lnP ⟨true,a0,a2,v⟩,.bool true]) (by simp[results,Tryz.results113,go_sem,plVal,lnP,y0,y1,y2,y3]) rfl (post_yes (uh HN) ((((hbf.setCell nlr _).setCell nlr _).setCell nlr _).setCell nlr _).drew)
theorem bytes_drop (r:List Int):∀ n,(runesBytes (r.drop n)).size≤(runesBytes r).size:=by
 induction r with
 | nil=>intro n;simp
 | cons a t ih =>
  intro n
  cases n with
  | zero=>simp
  | succ n =>
   have h1:=ih n
   have h2:=congrArg List.length (Sp.bytes_cons a t)
   simp at h2 ⊢
   omega
theorem readLine_any (p:Option Addr) (cap:Nat) (r:List Int) (w:World) (h:IntsAt w .i32 p r) (hl:r.length≤5000) (hc:r.length≤cap) (hcm:cap≤maxLen) (hsz:(runesBytes r).size≤4000) (hbd:∀ y ∈ r,0≤y∧y≤1114111) :
  Calls Tryz.prog 113 #[.slice p r.length cap] w (LinePost r w):=by
 cases r with
 | nil=>exact readLine_empty p cap w
 | cons a t =>
  obtain⟨g,rfl,_⟩:=ints_get h 0 (by simp)
  cases hv:vhB (a :: t) with
  | true=>exact readLine_v g cap _ w h hl hc hcm hv (Nat.le_trans (bytes_drop _ _) hsz) hbd
  | false =>
   cases he:ehB (a :: t) with
   | true=>exact readLine_e g cap _ w h hl hc hcm hv he (Nat.le_trans (bytes_drop _ _) hsz) hbd
   | false=>exact readLine_no _ cap _ w h hl (by simp) hv he
end Go.Proofs.YteflnddphpjahaaGreatDoor
namespace Go.Proofs.YteflnddphpjahaaGreatDoor.Sp
open Go
def plOf (x:ByteArray):Option (Option Ln):=if x.size=0 then some none else (lineOf x).map some
def plFrom:List ByteArray→Nat→List (Option Ln)→Except Nat (List (Option Ln))
 | [],_,P=>.ok P
 | x :: r,k,P=>match plOf x with
  | none=>.error k
  | some p=>plFrom r (k+1) (P++[p])
theorem pl_end {ls:List ByteArray} {k:Nat} (h:ls.length≤k) (P:List (Option Ln)):plFrom (ls.drop k) k P = .ok P:=by
 rw[List.drop_of_length_le h];rfl
theorem pl_none {ls:List ByteArray} {k:Nat} (h:k < ls.length) (P:List (Option Ln)) (he:plOf ls[k]=none):plFrom (ls.drop k) k P = .error k:=by
 rw[List.drop_eq_getElem_cons h];simp only[plFrom,he]
theorem pl_some {ls:List ByteArray} {k:Nat} (h:k < ls.length) (P:List (Option Ln)) {p:Option Ln} (he:plOf ls[k]=some p):plFrom (ls.drop k) k P=plFrom (ls.drop (k+1)) (k+1) (P++[p]):=by
 rw[List.drop_eq_getElem_cons h];simp only[plFrom,he]
def says (P:List (Option Ln)):List Ln:=P.filterMap id
def numsFrom:List (Option Ln)→Nat→List Nat
 | [],_=>[]
 | none :: r,k=>numsFrom r (k+1)
 | some _ :: r,k=>k :: numsFrom r (k+1)
theorem nums_append (P Q:List (Option Ln)):∀ k,numsFrom (P++Q) k=numsFrom P k++numsFrom Q (k+P.length):=by
 induction P with
 | nil=>intro k;simp[numsFrom]
 | cons p t ih =>
  intro k
  cases p with
  | none=>simp[numsFrom,ih,Nat.add_comm,Nat.add_left_comm]
  | some l=>simp[numsFrom,ih,Nat.add_comm,Nat.add_left_comm]
theorem rd_pl:∀ (ls:List ByteArray) (P:List (Option Ln)),rdFrom ls P.length (says P) (numsFrom P 0)=match plFrom ls P.length P with
  | .error k=>.error (3,(k:Int))
  | .ok Q=>.ok (says Q,numsFrom Q 0):=by
 intro ls
 induction ls with
 | nil=>intro P;rfl
 | cons x r ih =>
  intro P
  by_cases hx:x.size=0
  ·have h1:plOf x=some none:=if_pos hx
   simp only[rdFrom,plFrom,h1,hx,if_true]
   have:=ih (P++[none])
   simpa [says,nums_append,numsFrom] using this
  ·cases hl:lineOf x with
   | none =>
    have h1:plOf x=none:=by unfold plOf;rw[if_neg hx,hl];rfl
    simp only[rdFrom,plFrom,h1,hx,if_false,hl]
   | some l =>
    have h1:plOf x=some (some l):=by unfold plOf;rw[if_neg hx,hl];rfl
    simp only[rdFrom,plFrom,h1,hx,if_false,hl]
    have:=ih (P++[some l])
    simpa [says,nums_append,numsFrom] using this
theorem rd_of_pl (ls:List ByteArray):rdFrom ls 0 [] []=match plFrom ls 0 [] with
  | .error k=>.error (3,(k:Int))
  | .ok Q=>.ok (says Q,numsFrom Q 0):=rd_pl ls []
theorem pl_len:∀ (ls:List ByteArray) (k:Nat) (P Q:List (Option Ln)),plFrom ls k P = .ok Q→Q.length=P.length+ls.length:=by
 intro ls
 induction ls with
 | nil=>intro k P Q h;simp[plFrom] at h;subst h;simp
 | cons x r ih =>
  intro k P Q h
  simp only[plFrom] at h
  split at h
  ·cases h
  ·have:=ih _ _ _ h;simp at this ⊢;omega
theorem rs_empty {x:ByteArray}:rs x 0=[]↔x.size=0:=by
 constructor
 ·intro h
  apply Decidable.byContradiction
  intro h0
  rw[rs_cons (by omega)] at h
  cases h
 ·intro h;exact rs_nil (by omega)
def pk (p:Option Ln):Int:=match p with | none=>0 | some l=>if l.edge=true then 2 else 1
def pa (p:Option Ln):Int:=match p with | none=>0 | some l=>l.frm
def pb (p:Option Ln):Int:=match p with | none=>0 | some l=>if l.edge=true then l.to else 0
def pn (p:Option Ln):Int:=match p with | none=>0 | some l=>l.n
end Go.Proofs.YteflnddphpjahaaGreatDoor.Sp
namespace Go.Proofs.YteflnddphpjahaaGreatDoor
open Go.RowKit
theorem Tryz.info_pline:(Tryz.prog.info? 238).map (fun i=>(i.zero,i.size,i.bytes))=some (some (.agg #[.int .i64 0,.int .i32 0,.int .i32 0,.int .i64 0]),4,24):=by kernel_rfl
def SplitOk (w:World):Prop := ∃ m:Int,w.cell? ⟨6,0,none⟩=some (.int .i64 m)
theorem conv_runes (x:ByteArray) (w:World) (hx:x.size≤4000):∃ cap C,(convert 9 59 (.string x)).run Tryz.prog w = .ok (.slice (some ⟨w.heap.size,0,none⟩) (Sp.rs x 0).length cap) (w.drew.alloc (.cells C 21)) ∧
  (Sp.rs x 0).length≤cap∧cap≤maxLen∧IntsAt (w.drew.alloc (.cells C 21)) .i32 (some ⟨w.heap.size,0,none⟩) (Sp.rs x 0):=by
 have hl:=Sp.rs_len x _ 0 nlr
 have h:=run_runes_of_string (P:=Tryz.prog) w 9 59 21 x Tryz.underlying9 Tryz.underlying59 Tryz.underlying21 (by have:=size_runesFrom x x.size 0 #[];simp at this;omega)
 rw[Sp.runes_eq] at h
 have hz:((Sp.rs x 0).map (Value.int .i32)).toArray.size=(Sp.rs x 0).length:=by simp
 rw[hz] at h
 refine⟨_,_,h,grownCap_ge _ _ _ _,grownCap_le_maxLen _ _ _ _ (by unfold maxLen;omega),?_⟩
 intro j hj
 refine⟨w.heap.size,rfl,by simp,?_⟩
 refine(cell_of_row _ w.heap.size j _ 21 (0,0) (heap_alloc_new w.drew _)).trans ?_
 rw[Array.getElem?_append_left (by simp;exact hj)]
 simp[hj]
theorem readLine_word (x:ByteArray) (p:Option Addr) (cap:Nat) (w:World) (hV:Sp.V x 0) (hx:x.size≤4000) (h:IntsAt w .i32 p (Sp.rs x 0)) (hc:(Sp.rs x 0).length≤cap) (hcm:cap≤maxLen) :
  Calls Tryz.prog 113 #[.slice p (Sp.rs x 0).length cap] w fun e w'=>Below w.heap.size w w'∧match Sp.plOf x with
   | some q=>e = .returned (.tuple #[plVal (Sp.pk q) (Sp.pa q) (Sp.pb q) (Sp.pn q),.bool true])
   | none=>∃ k a b n:Int,e = .returned (.tuple #[plVal k a b n,.bool false]):=by
 have hl:=Sp.rs_len x _ 0 nlr
 have hb:=Sp.bytes_rs _ 0 nlr hV
 have hsz:(runesBytes (Sp.rs x 0)).size≤4000:=by have:=congrArg List.length hb;simp at this;omega
 refine(readLine_any p cap _ w h (by omega) hc hcm hsz (Sp.rs_bd x _ 0 nlr)).mono ?_
 rintro e w' ⟨hbl,he⟩
 refine⟨hbl,?_⟩
 have hr:=Sp.line_rs hV
 by_cases h0:x.size=0
 ·rw[Sp.rs_empty.2 h0] at he
  have h1:Sp.plOf x=some none:=if_pos h0
  rw[h1];exact he
 ·have hne:Sp.rs x 0≠[]:=fun e=>h0 (Sp.rs_empty.1 e)
  have h1:Sp.plOf x=(Sp.lnOf (Sp.rs x 0)).map some:=by unfold Sp.plOf;rw[if_neg h0,hr]
  rw[h1]
  cases hq:Sp.rs x 0 with
  | nil=>exact absurd hq hne
  | cons a t =>
   rw[hq] at he
   simp only at he
   cases hln:Sp.lnOf (a :: t) with
   | none=>rw[hln] at he;exact he
   | some l =>
    rw[hln] at he
    simp only at he
    rw[he]
    show _=_
    unfold lnP
    cases hed:l.edge <;> simp[Sp.pk,Sp.pa,Sp.pb,Sp.pn,hed]
def plCells (p:Option Sp.Ln):List Value:=[.int .i64 (Sp.pk p),.int .i32 (Sp.pa p),.int .i32 (Sp.pb p),.int .i64 (Sp.pn p)]
def plsCells (P:List (Option Sp.Ln)):List Value:=P.flatMap plCells
def LinesPost (s:ByteArray) (w:World) (e:Ending) (w':World):Prop :=
 Below w.heap.size w w' ∧
 match Sp.plFrom (Sp.split s 10) 0 [] with
 | .error k=>e = .returned (.tuple #[.slice none 0 0,.int .i64 (k:Nat),.bool false])
 | .ok P=>∃ v,e = .returned (.tuple #[v,.int .i64 0,.bool true])∧w'.ownsRow w.heap.size 238 4 v P.length (plsCells P)
theorem lines_err {s:ByteArray} {w w':World} {k:Nat} (h:Sp.plFrom (Sp.split s 10) 0 [] = .error k) (hb:Below w.heap.size w w') :
  LinesPost s w (.returned (.tuple #[.slice none 0 0,.int .i64 (k:Nat),.bool false])) w':=by
 refine⟨hb,?_⟩;rw[h]
theorem lines_ok {s:ByteArray} {w w':World} {P:List (Option Sp.Ln)} {v:Value} (h:Sp.plFrom (Sp.split s 10) 0 [] = .ok P) (hb:Below w.heap.size w w')
  (hv:w'.ownsRow w.heap.size 238 4 v P.length (plsCells P)) :
  LinesPost s w (.returned (.tuple #[v,.int .i64 0,.bool true])) w':=by
 refine⟨hb,?_⟩;rw[h];exact⟨v,rfl,hv⟩
theorem readLines_any (s:ByteArray) (w:World) (hs:s.size≤4000) (hV:Sp.V s 0) (hg:SplitOk w):Calls Tryz.prog 62 #[.string s] w (LinesPost s w):=by
 obtain⟨m,hm⟩:=hg
 obtain⟨i0,hi,hz0,hz1,hz2⟩:=info_parts Tryz.info_pline
 have HC:Hid (Calls Tryz.prog 68 #[.string s,.string ⟨#[10]⟩] w fun e w'=>e = .returned (.slice (some ⟨w.heap.size,0,none⟩) (Sp.split s 10).length (Sp.split s 10).length)∧w'=w.alloc (.cells ((Sp.split s 10).map Value.string).toArray 9)):=by
  have h:=Tryz.strings_Split s ⟨#[10]⟩ m w (by omega) hm (by decide)
  rw[Sp.split_lib,Sp.split_count] at h
  exact h
 have hlen:=Sp.split_len s 10
 have HS:=hde (Sp.split_size s 10)
 have HV:=hde (Sp.split_V hV)
 generalize hls:Sp.split s 10=ls at hlen HS HC HV
 have HLS:=hde hls
 clear hls hV hm
 go_enter Tryz.func62,Tryz.ntmps62
 go_wp2_with fail
 refine(uh HC).mono ?_
 rintro e w1 ⟨rfl,hw1⟩
 have hV1:w1.ownsRow w.heap.size 9 1 (.slice (some ⟨w.heap.size,0,none⟩) ls.length ls.length) ls.length (ls.map Value.string):=by
  rw[hw1]
  have:=World.ownsRow_lit (base:=w.heap.size) (e:=9) (size:=1) w (ls.map Value.string).toArray ls.length nlr (by unfold maxLen;omega) (by simp)
  simpa using this
 have hb1:Below w.heap.size w w1:=by rw[hw1];exact(Below.refl _ _).alloc nlr _
 clear hw1
 obtain⟨g0,hg0⟩:∃ g0,w.heap.size=g0:=⟨_,rfl⟩
 have HG:=hde hg0
 have hV2:w1.ownsRow w.heap.size 9 1 (.slice (some ⟨g0,0,none⟩) ls.length ls.length) ls.length (ls.map Value.string):=by rw[← hg0];exact hV1
 rw[hg0]
 clear hg0 hV1
 go_wp2_with fail
 go_loopw [5,13] (fun l i wr=>∃ (k:Nat) (P:List (Option Sp.Ln)),k≤ls.length∧P.length≤k∧i = .int .i64 k∧wr.ownsRow w.heap.size 238 4 l P.length (plsCells P) ∧
   wr.ownsRow w.heap.size 9 1 (.slice (some ⟨g0,0,none⟩) ls.length ls.length) ls.length (ls.map Value.string)∧Below w.heap.size w wr∧Hid (Sp.plFrom (ls.drop k) k P=Sp.plFrom ls 0 []))
  (fun _ i _=>ls.length - (intOf i).toNat)
 case atStart=>exact⟨0,[],Nat.zero_le _,Nat.zero_le _,rfl,World.ownsRow_nil _ _ _ _,hV2,hb1,rfl⟩
 case round =>
  obtain⟨k,P,hk,hPk,rfl,hl,hv,hbw,HR⟩:=hrel
  by_cases hlt:k < ls.length
  ·have hcx:wr.cell? ⟨g0,k,none⟩=some (.string ls[k]):=by
    rw[hv.cellAt k (by omega)];simp[hlt]
   have hxs:(ls[k]).size≤4000:=by have:=(uh HS) ls[k] (List.getElem_mem hlt);omega
   have HXV:=hde ((uh HV) ls[k] (List.getElem_mem hlt))
   generalize hx:ls[k]=x at hcx hxs HXV
   have HX:=hde hx
   clear hx
   obtain⟨cap,C,hcv,hc1,hc2,hc3⟩:=conv_runes x wr hxs
   have HC3:=hde hc3
   have HC1:=hde hc1
   have HC2:=hde hc2
   clear hc1 hc2 hc3
   have hbA:Below w.heap.size w (wr.drew.alloc (.cells C 21)):=hbw.drew.alloc hbw.size _
   have hlA:=(obl hl (Below.refl _ _).drew).alloc (.cells C 21)
   have hvA:=(obl hv (Below.refl _ _).drew).alloc (.cells C 21)
   cases hln:Sp.plOf x with
   | none =>
    have HN:=hde hln
    clear hln
    go_wp2_with fail
    refine(readLine_word x _ cap _ (uh HXV) hxs (uh HC3) (uh HC1) (uh HC2)).mono ?_
    rintro e w2 ⟨hb2,he⟩
    rw[uh HN] at he
    obtain⟨k1,a1,b1,n1,rfl⟩:=he
    have hbB:=hbA.trans (hb2.mono hbA.size)
    have hzB:=hbB.size
    clear hcv hlA hvA hb2 hbA
    unfold plVal
    go_wp2
    exact bodyPost_ret (v := .tuple #[.slice none 0 0,.int .i64 k,.bool false]) (by simp[results,Tryz.results62,go_sem]) rfl (lines_err (by rw[uh HLS,← uh HR];exact Sp.pl_none hlt P (by rw[uh HX];exact uh HN)) (hbB.alloc hzB _))
   | some q =>
    have HN:=hde hln
    clear hln
    go_wp2_with fail
    refine(readLine_word x _ cap _ (uh HXV) hxs (uh HC3) (uh HC1) (uh HC2)).mono ?_
    rintro e w2 ⟨hb2,he⟩
    rw[uh HN] at he
    obtain rfl:=he
    have hbB:=hbA.trans (hb2.mono hbA.size)
    have hzB:=hbB.size
    have hl2:=obl hlA hb2
    have hv2:=obl hvA hb2
    clear hcv hlA hvA hb2 hbA hl hv hcx
    unfold plVal
    go_wp2_with (first
     | (at_builtin;go_must (refine wpList_append_own _ rfl (.tmp 27) (.tmp 29) 157 rfl w.heap.size 238 i0 _ 4 24 Tryz.underlying157 hi hz0 hz1 hz2 rfl (by decide) _ _ _ rfl ((hl2.alloc _).alloc _) ⟨w2.heap.size+1,0,none⟩ 1 1 (plCells q) rfl rfl ?c1 ?c2 ?c3 ?c4 ?c5 ?_))
     | go_in)
    case c1 =>
     intro j u hj
     match j,hj with
     | 0,hj=>simp[plCells] at hj;subst hj;simp[Addr.add]
     | 1,hj=>simp[plCells] at hj;subst hj;simp[Addr.add]
     | 2,hj=>simp[plCells] at hj;subst hj;simp[Addr.add]
     | 3,hj=>simp[plCells] at hj;subst hj;simp[Addr.add]
     | j+4,hj=>simp[plCells] at hj
    case c2=>intro u hu;simp[plCells] at hu;rcases hu with rfl | rfl | rfl | rfl <;> rfl
    case c3=>unfold maxLen;omega
    case c4=>omega
    case c5=>simp;omega
    intro v3 w3 hl3 hg3 _
    have hbw3:=rel_app (ys:=[]) (v':=v3) (by simp;omega) ((hl2.alloc _).alloc _) ((hbB.alloc hzB _).alloc (by simp;omega) _) hg3
    have hv3:=own_app ((hl2.alloc _).alloc _) ((hv2.alloc _).alloc _) (by decide) hg3
    clear hg3 hl2 hv2 hbB
    go_wp2
    go_roundw
    case rel =>
     exact⟨k+1,P++[q],by omega,by simp;omega,by go_num,by simpa [plsCells,List.flatMap_append] using hl3,hv3,hbw3,by
      show _=_;rw[← uh HR];exact(Sp.pl_some hlt P (by rw[uh HX];exact uh HN)).symm⟩
    case measure=>simp[intOf];omega
  ·go_wp2
   refine bodyPost_ret (v := .tuple #[_,.int .i64 0,.bool true]) (by simp[results,Tryz.results62,go_sem]) rfl (lines_ok (P:=P) ?_ hbw hl)
   rw[uh HLS,← uh HR]
   exact Sp.pl_end (by omega) P
end Go.Proofs.YteflnddphpjahaaGreatDoor
