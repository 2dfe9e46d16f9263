import Derived.Test.YteflnddphpjahaaGreatDoorProg
import Derived.Test.YteflnddphpjahaaGreatDoorClPlAtoPlK
import Derived.Test.YteflnddphpjahaaGreatDoorClRefEtoRefG
import Derived.WalkKit
import Derived.Outline
import Derived.Deep.DeepMust
import Derived.Deep.QuietTactic
import Derived.BigQuiet
import Derived.Deep.AppendLies
set_option linter.unusedVariables false
set_option linter.unusedSimpArgs false
set_option maxRecDepth 100000
set_option maxHeartbeats 16000000
namespace Go.Proofs.YteflnddphpjahaaGreatDoor
open Go.RowKit
def NumsAt (w:World) (q:Option Addr) (A:List Nat):Prop :=
 ∀ k (h:k < A.length),∃ g,q=some ⟨g,0,none⟩∧w.cell? ⟨g,k,none⟩=some (.int .i64 (A[k]:Int))
theorem below_drewN (w:World) (n:Nat):Below w.heap.size w (w.drewN n):=by
 induction n with
 | zero=>exact Below.refl _ _
 | succ n ih=>exact ih.drew
theorem wrong_4 {L:List Sp.Ln} {A:List Nat} {k:Nat} (h:k < L.length) (hA:k < A.length) (hk:∀ j,j < k→Sp.twiceAt L j=false) (hp:Sp.twiceAt L k=true):Sp.wrongSpec L A=(4,(A[k]:Int)):=by
 unfold Sp.wrongSpec;rw[Sp.first_some h hk hp];simp[hA]
theorem wrong_5 {L:List Sp.Ln} {A:List Nat} {k:Nat} (h0:∀ j,j < L.length→Sp.twiceAt L j=false) (h:k < L.length) (hA:k < A.length) (hk:∀ j,j < k→Sp.loose L j=false) (hp:Sp.loose L k=true):Sp.wrongSpec L A=(5,(A[k]:Int)):=by
 unfold Sp.wrongSpec;rw[Sp.first_none h0];simp only;rw[Sp.first_some h hk hp];simp[hA]
theorem wrong_6 {L:List Sp.Ln} {A:List Nat} (h0:∀ j,j < L.length→Sp.twiceAt L j=false) (h1:∀ j,j < L.length→Sp.loose L j=false) :
  Sp.wrongSpec L A=if 256 < Sp.edges L∨64 < L.length - Sp.edges L then (6,0) else (0,0):=by
 unfold Sp.wrongSpec;rw[Sp.first_none h0];simp only;rw[Sp.first_none h1]
theorem all_next {p:Nat→Bool} {k:Nat} (h:∀ j,j < k→p j=false) (hk:p k=false):∀ j,j < k+1→p j=false:=by
 intro j hj
 by_cases e:j=k
 ·rw[e];exact hk
 ·exact h j (by omega)
theorem wrong_any (p q:Option Addr) (cap cap':Nat) (L:List Sp.Ln) (A:List Nat) (w:World) (hLA:A.length=L.length) (hL:L.length≤5000) (hc:LinesAt w p L) (hq:NumsAt w q A) :
  Calls Tryz.prog 104 #[.slice p L.length cap,.slice q L.length cap'] w fun e w'=>e = .returned (.tuple #[.int .i64 (Sp.wrongSpec L A).1,.int .i64 (Sp.wrongSpec L A).2])∧Below w.heap.size w w':=by
 have HLA:=hde hLA
 clear hLA
 go_enter Tryz.func104,Tryz.ntmps104
 go_wp2
 go_loopw [6] (fun i wr=>∃ k:Nat,k≤L.length∧i = .int .i64 k∧Hid (∀ j,j < k→Sp.twiceAt L j=false)∧w=wr) (fun i _=>L.length - (intOf i).toNat)
 case atStart=>exact⟨0,Nat.zero_le _,rfl,fun j hj=>by omega,rfl⟩
 case round =>
  obtain⟨k,hk,rfl,HT,hwr⟩:=hrel
  subst hwr
  by_cases hlt:k < L.length
  ·obtain⟨g,rfl,c0,c1,_,_⟩:=hc k hlt
   have hkA:k < A.length:=by rw[uh HLA];exact hlt
   obtain⟨g',rfl,d0⟩:=hq k hkA
   go_wp2_with fail
   refine(vertex_any _ _ L k _ rfl _ _ hk hL hc).mono ?_
   rintro e w' ⟨r,rfl,hw',hr⟩
   obtain rfl:=hw'.symm
   by_cases he:L[k].edge=true
   ·have HN:Hid (∀ j,j < k+1→Sp.twiceAt L j=false):=all_next (uh HT) (Sp.twice_no hlt (Or.inl he))
    have HR:=hde hr
    clear hr
    go_wp2
    go_roundw
    case rel=>exact⟨k+1,by omega,by go_num,HN,by trivial⟩
    case measure=>simp[intOf];omega
   ·have he':L[k].edge=false:=by simpa using he
    cases hv:Sp.hasV L k L[k].frm with
    | true =>
     have HN:Hid (Sp.wrongSpec L A=(4,(A[k]:Int))):=wrong_4 hlt hkA (uh HT) (Sp.twice_yes hlt he' hv)
     have hr':0≤r:=hr.2 hv
     have HR:=hde hr
     clear hr
     go_wp2
     go_quiet (fail)
     go_wp2
     go_ret2
     exact⟨by rw[uh HN];rfl,below_drewN _ _⟩
    | false =>
     have HN:Hid (∀ j,j < k+1→Sp.twiceAt L j=false):=all_next (uh HT) (Sp.twice_no hlt (Or.inr hv))
     have hr':¬ 0≤r:=fun h=>by rw[hr.1 h] at hv;cases hv
     have HR:=hde hr
     clear hr
     go_wp2
     go_roundw
     case rel=>exact⟨k+1,by omega,by go_num,HN,by trivial⟩
     case measure=>simp[intOf];omega
  ·obtain rfl:k=L.length:=by omega
   go_wp2
   go_loopw [8,9] (fun c i wr=>∃ k m:Nat,k≤L.length∧m≤k∧i = .int .i64 k∧c = .int .i64 m∧Hid (m=Sp.edgesTo L k)∧Hid (∀ j,j < k→Sp.loose L j=false)∧w=wr) (fun _ i _=>L.length - (intOf i).toNat)
   case atStart=>exact⟨0,0,Nat.zero_le _,Nat.zero_le _,rfl,rfl,rfl,fun j hj=>by omega,rfl⟩
   case round =>
    obtain⟨k,m,hk,hmk,rfl,rfl,HM,HO,hwr⟩:=hrel
    subst hwr
    by_cases hlt:k < L.length
    ·obtain⟨g,rfl,c0,c1,c2,_⟩:=hc k hlt
     have hkA:k < A.length:=by rw[uh HLA];exact hlt
     obtain⟨g',rfl,d0⟩:=hq k hkA
     by_cases he:L[k].edge=true
     ·have HM':Hid (m+1=Sp.edgesTo L (k+1)):=by show _=_;rw[Sp.edgesTo_yes hlt he,← uh HM]
      go_wp2_with fail
      refine(vertex_any _ _ L L.length _ rfl _ _ nlr hL hc).mono ?_
      rintro e w' ⟨r,rfl,hw',hr⟩
      obtain rfl:=hw'.symm
      have HR:=hde hr
      clear hr
      go_wp2_with fail
      refine(vertex_any _ _ L L.length _ rfl _ _ nlr hL hc).mono ?_
      rintro e w' ⟨r',rfl,hw',hr'⟩
      obtain rfl:=hw'.symm
      have HR':=hde hr'
      clear hr'
      by_cases h1:r < 0
      ·have HN:Hid (Sp.wrongSpec L A=(5,(A[k]:Int))):=wrong_5 (uh HT) hlt hkA (uh HO) (Sp.loose_yes hlt he (Or.inl (by
        cases hv:Sp.hasV L L.length L[k].frm with
        | true=>have:=(uh HR).2 hv;omega
        | false=>rfl)))
       go_wp2
       go_quiet (fail)
       go_wp2
       go_ret2
       exact⟨by rw[uh HN];rfl,below_drewN _ _⟩
      by_cases h2:r' < 0
      ·have HN:Hid (Sp.wrongSpec L A=(5,(A[k]:Int))):=wrong_5 (uh HT) hlt hkA (uh HO) (Sp.loose_yes hlt he (Or.inr (by
        cases hv:Sp.hasV L L.length L[k].to with
        | true=>have:=(uh HR').2 hv;omega
        | false=>rfl)))
       go_wp2
       go_quiet (fail)
       go_wp2
       go_ret2
       exact⟨by rw[uh HN];rfl,below_drewN _ _⟩
      ·have HN:Hid (∀ j,j < k+1→Sp.loose L j=false):=all_next (uh HO) (Sp.loose_no hlt (Or.inr ⟨(uh HR).1 (by omega),(uh HR').1 (by omega)⟩))
       go_wp2
       go_roundw
       case rel=>exact⟨k+1,m+1,by omega,by omega,by go_num,by go_num,HM',HN,by trivial⟩
       case measure=>simp[intOf];omega
     ·have he':L[k].edge=false:=by simpa using he
      have HM':Hid (m=Sp.edgesTo L (k+1)):=by show _=_;rw[Sp.edgesTo_no hlt he'];exact uh HM
      have HN:Hid (∀ j,j < k+1→Sp.loose L j=false):=all_next (uh HO) (Sp.loose_no hlt (Or.inl he'))
      go_wp2
      go_roundw
      case rel=>exact⟨k+1,m,by omega,by omega,by go_num,rfl,HM',HN,by trivial⟩
      case measure=>simp[intOf];omega
    ·obtain rfl:k=L.length:=by omega
     have HE:Hid (m=Sp.edges L):=by show _=_;rw[uh HM];exact Sp.edgesTo_all nlr
     have HW:=hde (wrong_6 (A:=A) (uh HT) (uh HO))
     rw[← uh HE] at HW
     by_cases h1:256 < m
     ·go_wp2
      go_ret2
      exact⟨by rw[uh HW,if_pos (Or.inl h1)];rfl,Below.refl _ _⟩
     by_cases h2:64 < L.length - m
     ·have h2':64 < (L.length:Int) - (m:Int):=by omega
      go_wp2
      go_ret2
      exact⟨by rw[uh HW,if_pos (Or.inr h2)];rfl,Below.refl _ _⟩
     ·have h2':¬ 64 < (L.length:Int) - (m:Int):=by omega
      go_wp2
      go_ret2
      exact⟨by rw[uh HW,if_neg (by omega)];rfl,Below.refl _ _⟩
theorem osl {w:World} {B e size n:Nat} {v:Value} {xs:List Value} (h:w.ownsRow B e size v n xs) :
  ∃ p cap,v = .slice p n cap∧∀ j,j < n * size→∃ g,p=some ⟨g,0,none⟩∧B≤g∧g < w.heap.size∧w.cell? ⟨g,j,none⟩=xs[j]?:=by
 have h0:=h
 obtain⟨h1,h2⟩:=h
 rcases h2 with ⟨rfl,rfl⟩ | ⟨g,cap,cur,rfl,hB,hg,r⟩
 ·exact⟨none,0,rfl,fun j hj=>by omega⟩
 ·exact⟨some ⟨g,0,none⟩,cap,rfl,fun j hj=>⟨g,rfl,hB,(Array.getElem?_eq_some_iff.1 hg).1,h0.cellAt j hj⟩⟩
theorem lns_get (L:List Sp.Ln):∀ (k:Nat) (h:k < L.length),(lnsCells L)[k * 4]? = some (.bool L[k].edge)∧(lnsCells L)[k * 4+1]? = some (.int .i64 L[k].frm)∧(lnsCells L)[k * 4+2]? = some (.int .i64 L[k].to)∧(lnsCells L)[k * 4+3]? = some (.int .i64 L[k].n):=by
 induction L with
 | nil=>intro k h;simp at h
 | cons l L ih =>
  intro k h
  cases k with
  | zero=>exact⟨rfl,rfl,rfl,rfl⟩
  | succ k =>
   have:=ih k (by simpa using h)
   have e:lnsCells (l :: L)=[Value.bool l.edge,.int .i64 l.frm,.int .i64 l.to,.int .i64 l.n]++lnsCells L:=rfl
   have a0:(k+1) * 4=k * 4+4:=by omega
   rw[e,a0]
   simp only[List.cons_append,List.nil_append,List.getElem_cons_succ]
   exact this
def LinesIn (w:World) (G:Nat) (p:Option Addr) (L:List Sp.Ln):Prop :=
 ∀ k (h:k < L.length),∃ g,p=some ⟨g,0,none⟩∧g < G∧w.cell? ⟨g,k * 4,none⟩=some (.bool L[k].edge)∧w.cell? ⟨g,k * 4+1,none⟩=some (.int .i64 L[k].frm)∧w.cell? ⟨g,k * 4+2,none⟩=some (.int .i64 L[k].to)∧w.cell? ⟨g,k * 4+3,none⟩=some (.int .i64 L[k].n)
theorem LinesIn.at {w:World} {G:Nat} {p:Option Addr} {L:List Sp.Ln} (h:LinesIn w G p L):LinesAt w p L:=fun k hk=>by
 obtain⟨g,a,_,b⟩:=h k hk
 exact⟨g,a,b⟩
theorem LinesIn.below {w w':World} {G:Nat} {p:Option Addr} {L:List Sp.Ln} (h:LinesIn w G p L) (hb:Below G w w'):LinesIn w' G p L:=fun k hk=>by
 obtain⟨g,a,hg,b0,b1,b2,b3⟩:=h k hk
 refine⟨g,a,hg,?_,?_,?_,?_⟩
 ·rw[hb.cell (p:=⟨g,k * 4,none⟩) hg];exact b0
 ·rw[hb.cell (p:=⟨g,k * 4+1,none⟩) hg];exact b1
 ·rw[hb.cell (p:=⟨g,k * 4+2,none⟩) hg];exact b2
 ·rw[hb.cell (p:=⟨g,k * 4+3,none⟩) hg];exact b3
theorem lines_of_own {w:World} {B:Nat} {v:Value} {L:List Sp.Ln} (h:w.ownsRow B 224 4 v L.length (lnsCells L)):∃ p cap,v = .slice p L.length cap∧LinesIn w w.heap.size p L:=by
 obtain⟨p,cap,hv,hc⟩:=osl h
 refine⟨p,cap,hv,fun k hk=>?_⟩
 obtain⟨e0,e1,e2,e3⟩:=lns_get L k hk
 obtain⟨g,hp,_,hg,c0⟩:=hc (k * 4) (by omega)
 obtain⟨g1,hp1,_,_,c1⟩:=hc (k * 4+1) (by omega)
 obtain⟨g2,hp2,_,_,c2⟩:=hc (k * 4+2) (by omega)
 obtain⟨g3,hp3,_,_,c3⟩:=hc (k * 4+3) (by omega)
 have q1:g1=g:=by rw[hp] at hp1;injection hp1 with q;injection q with q;exact q.symm
 have q2:g2=g:=by rw[hp] at hp2;injection hp2 with q;injection q with q;exact q.symm
 have q3:g3=g:=by rw[hp] at hp3;injection hp3 with q;injection q with q;exact q.symm
 subst q1 q2 q3
 exact⟨_,hp,hg,c0.trans e0,c1.trans e1,c2.trans e2,c3.trans e3⟩
theorem nums_of_own {w:World} {B:Nat} {v:Value} {A:List Nat} (h:w.ownsRow B 3 1 v A.length (numCells A)):∃ p cap,v = .slice p A.length cap∧NumsAt w p A:=by
 obtain⟨p,cap,hv,hc⟩:=osl h
 refine⟨p,cap,hv,fun k hk=>?_⟩
 obtain⟨g,hp,_,hg,c0⟩:=hc k (by omega)
 exact⟨g,hp,by rw[c0];simp[numCells,hk]⟩
def edCells (E:List Sp.Ed):List Value:=E.flatMap fun e=>[Value.int .i64 (e.frm:Int),.int .i64 (e.to:Int),.int .i64 e.n]
structure G3 (w:World) (G:Nat) (v u x:Value) (N V:List Int) (E:List Sp.Ed):Prop where
 lt:G < w.heap.size
 c0:w.cell? ⟨G,0,none⟩=some v
 c1:w.cell? ⟨G,1,none⟩=some u
 c2:w.cell? ⟨G,2,none⟩=some x
 fz:∀ j,w.frozen? ⟨G,j,none⟩=false
 r0:w.ownsRow (G+1) 21 1 v N.length (N.map (Value.int .i32))
 r1:w.ownsRow (G+1) 2 1 u V.length (V.map (Value.int .i64))
 r2:w.ownsRow (G+1) 67 3 x E.length (edCells E)
theorem G3.alloc {w:World} {G:Nat} {v u x:Value} {N V:List Int} {E:List Sp.Ed} (h:G3 w G v u x N V E) (o:Obj):G3 (w.alloc o) G v u x N V E:=by
 have hl:=h.lt
 refine⟨by simp;omega,?_,?_,?_,?_,h.r0.alloc o,h.r1.alloc o,h.r2.alloc o⟩
 ·rw[World.cell?_alloc_past _ _ _ (by simpa using hl)];exact h.c0
 ·rw[World.cell?_alloc_past _ _ _ (by simpa using hl)];exact h.c1
 ·rw[World.cell?_alloc_past _ _ _ (by simpa using hl)];exact h.c2
 ·intro j;rw[World.frozen?_alloc_past _ _ _ (by simpa using hl)];exact h.fz j
theorem G3.drew {w:World} {G:Nat} {v u x:Value} {N V:List Int} {E:List Sp.Ed} (h:G3 w G v u x N V E):G3 w.drew G v u x N V E :=
 ⟨h.lt,h.c0,h.c1,h.c2,h.fz,h.r0,h.r1,h.r2⟩
theorem G3.app0 {w w1:World} {G:Nat} {v v' u x:Value} {N V:List Int} {E:List Sp.Ed} {a:Int} (h:G3 w G v u x N V E)
  (ho:w1.ownsRow (G+1) 21 1 v' (N.length+1) (N.map (Value.int .i32)++[.int .i32 a])) (hg:w.grownBy w1 v.ownBlock):G3 (w1.setCell ⟨G,0,none⟩ v') G v' u x (N++[a]) V E:=by
 have hl:=h.lt
 have hne:some G≠v.ownBlock:=fun e=>by have:=(h.r0.lt G e.symm).1;omega
 have hc:∀ j,w1.cell? ⟨G,j,none⟩=w.cell? ⟨G,j,none⟩:=fun j=>hg.cell_far ⟨G,j,none⟩ hl hne
 have hs:=hg.size
 refine⟨by simp[World.setCell];omega,?_,?_,?_,?_,?_,?_,?_⟩
 ·exact World.cell?_setCell_same _ _ _ ((hc 0).trans h.c0)
 ·rw[World.cell?_setCell_other _ _ _ _ (by simp),hc];exact h.c1
 ·rw[World.cell?_setCell_other _ _ _ _ (by simp),hc];exact h.c2
 ·intro j;rw[World.frozen?_setCell,hg.frozen_far ⟨G,j,none⟩ hl hne];exact h.fz j
 ·exact ownsRow_setCell_below (by simpa using ho) (by show G < G+1;omega) _
 ·exact ownsRow_setCell_below (own_app h.r0 h.r1 (by decide) hg) (by show G < G+1;omega) _
 ·exact ownsRow_setCell_below (own_app h.r0 h.r2 (by decide) hg) (by show G < G+1;omega) _
theorem G3.app1 {w w1:World} {G:Nat} {v u u' x:Value} {N V:List Int} {E:List Sp.Ed} {a:Int} (h:G3 w G v u x N V E)
  (ho:w1.ownsRow (G+1) 2 1 u' (V.length+1) (V.map (Value.int .i64)++[.int .i64 a])) (hg:w.grownBy w1 u.ownBlock):G3 (w1.setCell ⟨G,1,none⟩ u') G v u' x N (V++[a]) E:=by
 have hl:=h.lt
 have hne:some G≠u.ownBlock:=fun e=>by have:=(h.r1.lt G e.symm).1;omega
 have hc:∀ j,w1.cell? ⟨G,j,none⟩=w.cell? ⟨G,j,none⟩:=fun j=>hg.cell_far ⟨G,j,none⟩ hl hne
 have hs:=hg.size
 refine⟨by simp[World.setCell];omega,?_,?_,?_,?_,?_,?_,?_⟩
 ·rw[World.cell?_setCell_other _ _ _ _ (by simp),hc];exact h.c0
 ·exact World.cell?_setCell_same _ _ _ ((hc 1).trans h.c1)
 ·rw[World.cell?_setCell_other _ _ _ _ (by simp),hc];exact h.c2
 ·intro j;rw[World.frozen?_setCell,hg.frozen_far ⟨G,j,none⟩ hl hne];exact h.fz j
 ·exact ownsRow_setCell_below (own_app h.r1 h.r0 (by decide) hg) (by show G < G+1;omega) _
 ·exact ownsRow_setCell_below (by simpa using ho) (by show G < G+1;omega) _
 ·exact ownsRow_setCell_below (own_app h.r1 h.r2 (by decide) hg) (by show G < G+1;omega) _
theorem G3.app2 {w w1:World} {G:Nat} {v u x x':Value} {N V:List Int} {E:List Sp.Ed} {a:Sp.Ed} (h:G3 w G v u x N V E)
  (ho:w1.ownsRow (G+1) 67 3 x' (E.length+1) (edCells E++[.int .i64 (a.frm:Int),.int .i64 (a.to:Int),.int .i64 a.n])) (hg:w.grownBy w1 x.ownBlock):G3 (w1.setCell ⟨G,2,none⟩ x') G v u x' N V (E++[a]):=by
 have hl:=h.lt
 have hne:some G≠x.ownBlock:=fun e=>by have:=(h.r2.lt G e.symm).1;omega
 have hc:∀ j,w1.cell? ⟨G,j,none⟩=w.cell? ⟨G,j,none⟩:=fun j=>hg.cell_far ⟨G,j,none⟩ hl hne
 have hs:=hg.size
 refine⟨by simp[World.setCell];omega,?_,?_,?_,?_,?_,?_,?_⟩
 ·rw[World.cell?_setCell_other _ _ _ _ (by simp),hc];exact h.c0
 ·rw[World.cell?_setCell_other _ _ _ _ (by simp),hc];exact h.c1
 ·exact World.cell?_setCell_same _ _ _ ((hc 2).trans h.c2)
 ·intro j;rw[World.frozen?_setCell,hg.frozen_far ⟨G,j,none⟩ hl hne];exact h.fz j
 ·exact ownsRow_setCell_below (own_app h.r2 h.r0 (by decide) hg) (by show G < G+1;omega) _
 ·exact ownsRow_setCell_below (own_app h.r2 h.r1 (by decide) hg) (by show G < G+1;omega) _
 ·exact ownsRow_setCell_below (by simpa [edCells,List.flatMap_append] using ho) (by show G < G+1;omega) _
theorem below_app {w0 w w1:World} {G e size n:Nat} {v:Value} {xs:List Value} (hb:Below G w0 w) (hl:G < w.heap.size) (ho:w.ownsRow (G+1) e size v n xs) (hg:w.grownBy w1 v.ownBlock) (j:Nat) (u:Value):Below G w0 (w1.setCell ⟨G,j,none⟩ u):=
 (hb.grown hg (by omega) (fun k hk=>by have:=(ho.lt k hk).1;omega)).setCell nlr _
theorem G3.new {w:World}:G3 (w.alloc (.cells #[.slice none 0 0,.slice none 0 0,.slice none 0 0] 79)) w.heap.size (.slice none 0 0) (.slice none 0 0) (.slice none 0 0) [] [] []:=by
 refine⟨by simp,by simp,by simp,by simp,by simp,World.ownsRow_nil _ _ _ _,World.ownsRow_nil _ _ _ _,World.ownsRow_nil _ _ _ _⟩
end Go.Proofs.YteflnddphpjahaaGreatDoor
