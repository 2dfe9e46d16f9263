import Derived.Test.YteflnddphpjahaaGreatDoorClTabDtoSrtA
import Derived.BigRegion
import Derived.Test.YteflnddphpjahaaGreatDoorClCpGtoTabC
import Derived.Deep.DeepCutAuto
import Derived.BigQuiet
import Derived.Deep.DeepMust
set_option linter.unusedVariables false
set_option linter.unusedSimpArgs false
set_option maxRecDepth 100000
set_option maxHeartbeats 16000000
namespace Go.Proofs.YteflnddphpjahaaGreatDoor
open Go.RowKit
theorem ed_len (E:List Sp.Ed):(edCells E).length=E.length * 3:=by
 induction E with
 | nil=>rfl
 | cons p t ih=>simp[edCells] at ih ⊢;omega
theorem ed_set (E:List Sp.Ed) (x:Sp.Ed):∀ j,j < E.length→(((edCells E).set (j * 3) (.int .i64 (x.frm:Int))).set (j * 3+1) (.int .i64 (x.to:Int))).set (j * 3+2) (.int .i64 x.n)=edCells (E.set j x):=by
 induction E with
 | nil=>intro j h;simp at h
 | cons p t ih =>
  intro j h
  have e:∀ (q:Sp.Ed) (u:List Sp.Ed),edCells (q :: u) = .int .i64 (q.frm:Int) :: .int .i64 (q.to:Int) :: .int .i64 q.n :: edCells u:=fun q u=>by simp[edCells]
  cases j with
  | zero=>simp[e]
  | succ j =>
   have:=ih j (by simpa using h)
   rw[List.set_cons_succ,e,e,← this,show (j+1) * 3=j * 3+1+1+1 by omega]
   simp[List.set_cons_succ]
def putE (w:World) (g j:Nat) (x:Sp.Ed):World:=((w.setCell ⟨g,j * 3,none⟩ (.int .i64 (x.frm:Int))).setCell ⟨g,j * 3+1,none⟩ (.int .i64 (x.to:Int))).setCell ⟨g,j * 3+2,none⟩ (.int .i64 x.n)
theorem own_put {w:World} {B e g cap:Nat} {X:List Sp.Ed} (h:w.ownsRow B e 3 (.slice (some ⟨g,0,none⟩) X.length cap) X.length (edCells X)) (j:Nat) (hj:j < X.length) (x:Sp.Ed) :
  (putE w g j x).ownsRow B e 3 (.slice (some ⟨g,0,none⟩) X.length cap) X.length (edCells (X.set j x))∧w.grownBy (putE w g j x) (some g):=by
 obtain⟨h1,h2⟩:=h
 rcases h2 with ⟨hv,hn⟩ | ⟨g',cap',cur,hv,hB,hg,hnc,hcm,hcs,ht⟩
 ·omega
 ·injection hv with e1 e2 e3
  injection e1 with e1
  injection e1 with e1
  subst e1 e3
  have s1:=setCell_eq_setRow w g (j * 3) cur e (0,0) (.int .i64 (x.frm:Int)) hg
  have g1:=setRow_heap w g cur (cur.setIfInBounds (j * 3) (.int .i64 (x.frm:Int))) e (0,0) hg
  have s2:=setCell_eq_setRow _ g (j * 3+1) _ e (0,0) (.int .i64 (x.to:Int)) g1
  have g2:=setRow_heap _ g _ ((cur.setIfInBounds (j * 3) (.int .i64 (x.frm:Int))).setIfInBounds (j * 3+1) (.int .i64 (x.to:Int))) e (0,0) g1
  have s3:=setCell_eq_setRow _ g (j * 3+2) _ e (0,0) (.int .i64 x.n) g2
  have g3:=setRow_heap _ g _ (((cur.setIfInBounds (j * 3) (.int .i64 (x.frm:Int))).setIfInBounds (j * 3+1) (.int .i64 (x.to:Int))).setIfInBounds (j * 3+2) (.int .i64 x.n)) e (0,0) g2
  have eW:putE w g j x=((w.setRow g (cur.setIfInBounds (j * 3) (.int .i64 (x.frm:Int)))).setRow g ((cur.setIfInBounds (j * 3) (.int .i64 (x.frm:Int))).setIfInBounds (j * 3+1) (.int .i64 (x.to:Int)))).setRow g (((cur.setIfInBounds (j * 3) (.int .i64 (x.frm:Int))).setIfInBounds (j * 3+1) (.int .i64 (x.to:Int))).setIfInBounds (j * 3+2) (.int .i64 x.n)):=by
   unfold putE;rw[s1,s2,s3]
  rw[eW]
  refine⟨⟨by rw[ed_len,List.length_set],.inr ⟨g,cap,_,rfl,hB,g3,hnc,hcm,by simpa using hcs,?_⟩⟩,⟨rfl,rfl,rfl,by simp[World.setRow],fun k hk hkg=>?_⟩⟩
  ·rw[← ed_set X x j hj,← ht]
   simp only[Array.toList_setIfInBounds,List.take_set]
  ·have hkg':k≠g:=fun e=>hkg (by rw[e])
   rw[setRow_other _ g k _ hkg',setRow_other _ g k _ hkg',setRow_other _ g k _ hkg']
theorem grown_trans {a b c:World} {r:Option Nat} (h:a.grownBy b r) (k:b.grownBy c r):a.grownBy c r :=
 ⟨k.os.trans h.os,k.tape.trans h.tape,k.output.trans h.output,Nat.le_trans h.size k.size,fun i hi hr=>(k.block i (Nat.lt_of_lt_of_le hi h.size) hr).trans (h.block i hi hr)⟩
theorem grown_below {w w':World} {r:Option Nat} (h:Below w.heap.size w w'):w.grownBy w' r:=⟨h.os,h.tape,h.output,h.size,fun k hk _=>h.block k hk⟩
theorem grown_refl (w:World) (r:Option Nat):w.grownBy w r:=⟨rfl,rfl,rfl,Nat.le_refl _,fun _ _ _=>rfl⟩
def exch (X:List Sp.Ed) (i j:Nat) (hi:i < X.length) (hj:j < X.length):List Sp.Ed:=(X.set i X[j]).set j X[i]
theorem own_exch {w:World} {B e g cap:Nat} {X:List Sp.Ed} (h:w.ownsRow B e 3 (.slice (some ⟨g,0,none⟩) X.length cap) X.length (edCells X)) (i j:Nat) (hi:i < X.length) (hj:j < X.length) :
  (putE (putE w g i X[j]) g j X[i]).drew.ownsRow B e 3 (.slice (some ⟨g,0,none⟩) X.length cap) X.length (edCells (exch X i j hi hj))∧w.grownBy (putE (putE w g i X[j]) g j X[i]).drew (some g):=by
 obtain⟨h1,k1⟩:=own_put h i hi X[j]
 have hl:(X.set i X[j]).length=X.length:=List.length_set
 have h1':=h1
 rw[← hl] at h1'
 obtain⟨h2,k2⟩:=own_put h1' j (by rw[hl];exact hj) X[i]
 rw[hl] at h2
 exact⟨obl h2 (Below.refl _ _).drew,grown_trans (grown_trans k1 k2) (grown_below (Below.refl _ _).drew)⟩
def progV (c0 c1 c2 c3 c4 c5 c6:Value):Value := .agg #[c0,c1,c2,c3,c4,c5,c6]
theorem blk7_cell {w:World} {G:Nat} {c0 c1 c2 c3 c4 c5 c6:Value} {t:Nat} (h:w.heap[G]? = some (.cells #[c0,c1,c2,c3,c4,c5,c6] t (0,0))) :
  w.cell? ⟨G,0,none⟩=some c0∧w.cell? ⟨G,1,none⟩=some c1∧w.cell? ⟨G,2,none⟩=some c2∧w.cell? ⟨G,3,none⟩=some c3∧w.cell? ⟨G,4,none⟩=some c4∧w.cell? ⟨G,5,none⟩=some c5∧w.cell? ⟨G,6,none⟩=some c6∧∀ j,w.frozen? ⟨G,j,none⟩=false :=
 ⟨by simp[World.cell?,h],by simp[World.cell?,h],by simp[World.cell?,h],by simp[World.cell?,h],by simp[World.cell?,h],by simp[World.cell?,h],by simp[World.cell?,h],fun j=>by simp[World.frozen?,h]⟩
def Shp (C:Array Value):Prop:=C.size=7∧(∀ j,j < 5→∃ p n k,C[j]? = some (.slice p n k))∧(∀ j,5≤j→j < 7→∃ b,C[j]? = some (.string b))
theorem Shp.form {C:Array Value} (h:Shp C):∃ p0 n0 k0 p1 n1 k1 p2 n2 k2 p3 n3 k3 p4 n4 k4 b5 b6,C = #[.slice p0 n0 k0,.slice p1 n1 k1,.slice p2 n2 k2,.slice p3 n3 k3,.slice p4 n4 k4,.string b5,.string b6]:=by
 obtain⟨h1,h2,h3⟩:=h
 obtain⟨l⟩:=C
 match l,h1 with
 | [a,b,c,d,e,f,g],_ =>
  obtain⟨p0,n0,k0,e0⟩:=h2 0 (by omega)
  obtain⟨p1,n1,k1,e1⟩:=h2 1 (by omega)
  obtain⟨p2,n2,k2,e2⟩:=h2 2 (by omega)
  obtain⟨p3,n3,k3,e3⟩:=h2 3 (by omega)
  obtain⟨p4,n4,k4,e4⟩:=h2 4 (by omega)
  obtain⟨b5,e5⟩:=h3 5 (by omega) (by omega)
  obtain⟨b6,e6⟩:=h3 6 (by omega) (by omega)
  simp at e0 e1 e2 e3 e4 e5 e6
  exact⟨p0,n0,k0,p1,n1,k1,p2,n2,k2,p3,n3,k3,p4,n4,k4,b5,b6,by rw[e0,e1,e2,e3,e4,e5,e6]⟩
theorem Shp.set {C:Array Value} (h:Shp C) {i:Nat} (hi:i < 7) {v:Value} (h1:i < 5→∃ p n k,v = .slice p n k) (h2:5≤i→∃ b,v = .string b):Shp (C.setIfInBounds i v):=by
 obtain⟨a1,a2,a3⟩:=h
 refine⟨by simpa using a1,?_,?_⟩
 ·intro j hj
  by_cases e:i=j
  ·subst e
   obtain⟨p,n,k,rfl⟩:=h1 hj
   exact⟨p,n,k,by rw[Array.getElem?_setIfInBounds_self];rw[if_pos (by omega)]⟩
  ·rw[Array.getElem?_setIfInBounds_ne e];exact a2 j hj
 ·intro j hj hj2
  by_cases e:i=j
  ·subst e
   obtain⟨b,rfl⟩:=h2 hj
   exact⟨b,by rw[Array.getElem?_setIfInBounds_self];rw[if_pos (by omega)]⟩
  ·rw[Array.getElem?_setIfInBounds_ne e];exact a3 j hj hj2
theorem nil_shp:Shp #[.slice none 0 0,.slice none 0 0,.slice none 0 0,.slice none 0 0,.slice none 0 0,.string ⟨#[]⟩,.string ⟨#[]⟩]:=by
 refine⟨rfl,?_,?_⟩
 ·intro j hj
  match j,hj with
  | 0,_=>exact⟨none,0,0,rfl⟩
  | 1,_=>exact⟨none,0,0,rfl⟩
  | 2,_=>exact⟨none,0,0,rfl⟩
  | 3,_=>exact⟨none,0,0,rfl⟩
  | 4,_=>exact⟨none,0,0,rfl⟩
 ·intro j hj hj2
  match j,hj,hj2 with
  | 5,_,_=>exact⟨_,rfl⟩
  | 6,_,_=>exact⟨_,rfl⟩
def tw (s:ByteArray) (j:Nat):List ByteArray:=(Sp.ws ((Sp.split s 10).getD j ⟨#[]⟩)).tail
def CodesAt (s:ByteArray) (w:World) (P:Nat) (C:Array Value) (i:Nat):Prop := ∀ j,j < i→j < 5→∃ p cap,C[j]? = some (.slice p (tw s j).length cap)∧SAt w p (tw s j)∧∀ a,p=some a→P < a.block
def CombsAt (s:ByteArray) (C:Array Value) (i:Nat):Prop := ∀ j,5≤j→j < i→j < 7→C[j]? = some (.string ((tw s j).headD ⟨#[]⟩))
theorem CombsAt.next {s:ByteArray} {C:Array Value} {i:Nat} (h:CombsAt s C i) (hC:C.size=7) (hi:i < 7) {z:ByteArray} (hz:tw s i=[z]):CombsAt s (C.setIfInBounds i (.string z)) (i+1):=by
 intro j h5 hj h7
 by_cases e:i=j
 ·subst e
  rw[Array.getElem?_setIfInBounds_self,if_pos (by omega),hz];rfl
 ·rw[Array.getElem?_setIfInBounds_ne e];exact h j h5 (by omega) h7
def RWordsAt (s:ByteArray) (w:World) (C:Array Value):Prop:=(∃ P,CodesAt s w P C 7)∧CombsAt s C 7
def CompPost (s:ByteArray) (w:World) (e:Ending) (w':World):Prop :=
 Below w.heap.size w w'∧∃ p0 n0 k0 p1 n1 k1 p2 n2 k2 p3 n3 k3 p4 n4 k4 b5 b6,e = .returned (.tuple #[progV (.slice p0 n0 k0) (.slice p1 n1 k1) (.slice p2 n2 k2) (.slice p3 n3 k3) (.slice p4 n4 k4) (.string b5) (.string b6),.int .i64 (Sp.comp s).1,.int .i64 (Sp.comp s).2])∧((Sp.comp s).1=0→RWordsAt s w' #[.slice p0 n0 k0,.slice p1 n1 k1,.slice p2 n2 k2,.slice p3 n3 k3,.slice p4 n4 k4,.string b5,.string b6])
theorem rcomp_err {s:ByteArray} {w w':World} {a b:Int} {p0 p1 p2 p3 p4:Option Addr} {n0 n1 n2 n3 n4 k0 k1 k2 k3 k4:Nat} {b5 b6:ByteArray} (h:Sp.comp s=(a,b)) (hb:Below w.heap.size w w') (ha:a≠0:=by decide):CompPost s w (.returned (.tuple #[progV (.slice p0 n0 k0) (.slice p1 n1 k1) (.slice p2 n2 k2) (.slice p3 n3 k3) (.slice p4 n4 k4) (.string b5) (.string b6),.int .i64 a,.int .i64 b])) w' :=
 ⟨hb,p0,n0,k0,p1,n1,k1,p2,n2,k2,p3,n3,k3,p4,n4,k4,b5,b6,by rw[h],fun h0=>by rw[h] at h0;exact absurd h0 ha⟩
theorem rcomp_ok {s:ByteArray} {w w':World} {p0 p1 p2 p3 p4:Option Addr} {n0 n1 n2 n3 n4 k0 k1 k2 k3 k4:Nat} {b5 b6:ByteArray} (h:Sp.comp s=(0,0)) (hb:Below w.heap.size w w') (hw:RWordsAt s w' #[.slice p0 n0 k0,.slice p1 n1 k1,.slice p2 n2 k2,.slice p3 n3 k3,.slice p4 n4 k4,.string b5,.string b6]):CompPost s w (.returned (.tuple #[progV (.slice p0 n0 k0) (.slice p1 n1 k1) (.slice p2 n2 k2) (.slice p3 n3 k3) (.slice p4 n4 k4) (.string b5) (.string b6),.int .i64 0,.int .i64 0])) w' :=
 ⟨hb,p0,n0,k0,p1,n1,k1,p2,n2,k2,p3,n3,k3,p4,n4,k4,b5,b6,by rw[h],fun _=>hw⟩
abbrev nilP:Array Value := #[.slice none 0 0,.slice none 0 0,.slice none 0 0,.slice none 0 0,.slice none 0 0,.string ⟨#[]⟩,.string ⟨#[]⟩]
theorem comp_long (s:ByteArray) (w:World) (h:2000 < s.size):Calls Tryz.prog 54 #[.string s] w (CompPost s w):=by
 have hz:(2000:Int) < (s.size:Int):=by omega
 have HE:Hid (Sp.comp s=(1,0)):=by show _=_;unfold Sp.comp;rw[if_pos h]
 go_enter Tryz.func54,Tryz.ntmps54
 go_wp2
 refine bodyPost_ret (v := .tuple #[progV (.slice none 0 0) (.slice none 0 0) (.slice none 0 0) (.slice none 0 0) (.slice none 0 0) (.string ⟨#[]⟩) (.string ⟨#[]⟩),.int .i64 1,.int .i64 0]) (by simp[results,Tryz.results54,go_sem,progV]) rfl ?_
 exact rcomp_err (uh HE) (((Below.refl _ _).alloc nlr _).alloc (by simp) _)
theorem SAt.grown {w w':World} {p:Option Addr} {X:List ByteArray} {P:Nat} (h:SAt w p X) (hg:w.grownBy w' (some P)) (hp:∀ a,p=some a→P < a.block):SAt w' p X:=fun j hj=>by
 obtain⟨g,off,e,h1,h2⟩:=h j hj
 have:=hp _ e
 simp at this
 exact⟨g,off,e,Nat.lt_of_lt_of_le h1 hg.size,(hg.cell_far ⟨g,off+j,none⟩ h1 (by simp;omega)).trans h2⟩
theorem grown_set7 (w:World) (P i:Nat) (v:Value):w.grownBy (w.setCell ⟨P,i,none⟩ v) (some P):=
 ⟨rfl,rfl,rfl,by simp[World.setCell],fun k _ hk=>Below.heap_setCell _ _ _ k (fun e=>hk (by rw[e]))⟩
theorem blk_set {w:World} {P i:Nat} {C:Array Value} {t:Nat} (h:w.heap[P]? = some (.cells C t (0,0))) (v:Value):(w.setCell ⟨P,i,none⟩ v).heap[P]? = some (.cells (C.setIfInBounds i v) t (0,0)):=by
 rw[setCell_eq_setRow w P i C t (0,0) v h]
 exact setRow_heap w P _ _ t _ h
theorem CodesAt.next {s:ByteArray} {w w':World} {P i:Nat} {C:Array Value} {v:Value} (h:CodesAt s w P C i) (hC:C.size=7) (hg:w.grownBy w' (some P)) (hi:i < 7) (hv:i < 5→∃ p cap,v = .slice p (tw s i).length cap∧SAt w' p (tw s i)∧∀ a,p=some a→P < a.block):CodesAt s w' P (C.setIfInBounds i v) (i+1):=by
 intro j hj hj5
 by_cases e:i=j
 ·subst e
  obtain⟨p,cap,e1,e2,e3⟩:=hv hj5
  exact⟨p,cap,by rw[Array.getElem?_setIfInBounds_self,if_pos (by omega),e1],e2,e3⟩
 ·obtain⟨p,cap,e1,e2,e3⟩:=h j (by omega) hj5
  exact⟨p,cap,by rw[Array.getElem?_setIfInBounds_ne e];exact e1,e2.grown hg e3,e3⟩
theorem CodesAt.setR {s:ByteArray} {w:World} {P R i j:Nat} {C:Array Value} {v:Value} (h:CodesAt s w P C i) (hR:R < P):CodesAt s (w.setCell ⟨R,j,none⟩ v) P C i:=by
 intro q hq hq5
 obtain⟨p,cap,e1,e2,e3⟩:=h q hq hq5
 exact⟨p,cap,e1,e2.grown (grown_set7 w R j v) (fun a ha=>by have:=e3 a ha;omega),e3⟩
theorem comp_lines (s:ByteArray) (w:World) (hs:s.size≤2000):Calls Tryz.prog 54 #[.string s] w (CompPost s w):=by
 have hz:¬ (2000:Int) < (s.size:Int):=by omega
 have hspl:=(Sp.split_len s 10).2
 go_enter Tryz.func54,Tryz.ntmps54
 go_wp2_with fail
 refine(split_any s 10 10 rfl (by omega) _ (by omega)).mono ?_
 rintro e w1 ⟨v,rfl,ho,hb1⟩
 obtain⟨pl,cl,rfl,hcs⟩:=osl ho
 obtain⟨n,HNN⟩:∃ n,Hid ((Sp.split s 10).length=n):=⟨_,rfl⟩
 rw[uh HNN] at hspl
 rw[uh HNN]
 have hR0:w1.heap[w.heap.size]? = some (.cells nilP 107 (0,0)):=by
  rw[hb1.block _ (by simp;omega),Below.heap_alloc _ _ _ (by simp)];exact heap_alloc_new w _
 have hP0:w1.heap[w.heap.size+1]? = some (.cells nilP 107 (0,0)):=by
  rw[hb1.block _ (by simp)]
  have:=heap_alloc_new (w.alloc (.cells nilP 107)) (.cells nilP 107)
  rwa [World.size_alloc] at this
 have hbw1:Below w.heap.size w w1:=(((Below.refl _ w).alloc nlr _).alloc (by simp) _).trans (hb1.mono (by simp;omega))
 have HCS:=hde hcs
 clear hcs ho hb1
 go_wp2_with fail
 go_loopw [7] (fun u wr=>∃ (i:Nat) (C:Array Value),u = .int .i64 i∧i≤n∧i≤7∧wr.heap[w.heap.size+1]? = some (.cells C 107 (0,0))∧Hid (Shp C)∧w1.grownBy wr (some (w.heap.size+1))∧Hid (∀ j,j < i→Sp.lineOk j ((Sp.split s 10).getD j ⟨#[]⟩)=true)∧Hid (CodesAt s wr (w.heap.size+1) C i)∧Hid (CombsAt s C i)) (fun u _=>8 - (intOf u).toNat)
 case atStart=>exact⟨0,nilP,rfl,Nat.zero_le _,by omega,hP0,nil_shp,grown_refl _ _,fun j hj=>by omega,fun j hj=>by omega,fun j h5 hj=>by omega⟩
 case round =>
  obtain⟨i,C,rfl,hin,hi7,hP,hCs,hgr,HOK,HCA,HCM⟩:=hrel
  obtain⟨p0,n0,q0,p1,n1,q1,p2,n2,q2,p3,n3,q3,p4,n4,q4,b5,b6,rfl⟩:=(uh hCs).form
  have hR:wr.heap[w.heap.size]? = some (.cells nilP 107 (0,0)):=(hgr.block _ (Array.getElem?_eq_some_iff.1 hR0).1 (by simp)).trans hR0
  have hsz:=hgr.size
  have hRl:=(Array.getElem?_eq_some_iff.1 hR0).1
  have hbw:Below w.heap.size w wr:=hbw1.grown hgr hbw1.size (fun k hk=>by cases hk;omega)
  obtain⟨k0,k1,k2,k3,k4,k5,k6,kf⟩:=blk7_cell hP
  obtain⟨r0,r1,r2,r3,r4,r5,r6,rf⟩:=blk7_cell hR
  have f0:=rf 0
  have f1:=rf 1
  have f2:=rf 2
  have f3:=rf 3
  have f4:=rf 4
  have f5:=rf 5
  have f6:=rf 6
  by_cases hlt:i < n
  ·have hltz:(i:Int) < (n:Int):=by omega
   by_cases h7:i=7
   ·have h7z:(7:Int)≤(i:Int):=by omega
    have HE:Hid (Sp.comp s=(3,7)):=by
     show _=_
     unfold Sp.comp
     rw[if_neg (by omega),uh HNN,show min 7 n=7 by omega,Sp.first_none (fun j hj=>by rw[(uh HOK) j (by omega)];rfl)]
     simp only
     rw[if_pos (by omega)]
    clear HOK HCA HCS hP hR hCs hR0 hP0
    go_wp2
    refine bodyPost_ret (v := .tuple #[progV (.slice p0 n0 q0) (.slice p1 n1 q1) (.slice p2 n2 q2) (.slice p3 n3 q3) (.slice p4 n4 q4) (.string b5) (.string b6),.int .i64 3,.int .i64 7]) (by simp[results,Tryz.results54,go_sem,progV,r0,r1,r2,r3,r4,r5,r6]) rfl ?_
    exact rcomp_err (uh HE) ((((((((hbw.setCell nlr _).setCell nlr _).setCell nlr _).setCell nlr _).setCell nlr _).setCell nlr _).setCell nlr _))
   ·have h7z:¬ (7:Int)≤(i:Int):=by omega
    obtain⟨x,hx⟩:∃ x,(Sp.split s 10).getD i ⟨#[]⟩=x:=⟨_,rfl⟩
    have hil:i < (Sp.split s 10).length:=by rw[uh HNN];exact hlt
    have hxm:x ∈ Sp.split s 10:=by rw[← hx,List.getD_eq_getElem?_getD,List.getElem?_eq_getElem hil];exact List.getElem_mem hil
    have hxz:x.size≤2000:=Nat.le_trans (Sp.cut_size s 10 x hxm) hs
    obtain⟨g,rfl,hg0,hg1,hg2⟩:=(uh HCS) i (by omega)
    have hgx:wr.cell? ⟨g,i,none⟩=some (.string x):=by
     rw[hgr.cell_far ⟨g,i,none⟩ hg1 (by simp at hg0 ⊢;omega),hg2,List.getElem?_map,List.getElem?_eq_getElem hil]
     rw[List.getD_eq_getElem?_getD,List.getElem?_eq_getElem hil] at hx
     simp only[Option.getD_some] at hx
     rw[hx];rfl
    have HX:=hde hx
    clear hx hg2 hxm
    have hne:=(Sp.split_len x 32).1
    obtain⟨y,r,hyr⟩:∃ y r,Sp.ws x=y :: r:=by
     cases hq:Sp.ws x with
     | nil=>unfold Sp.ws at hq;rw[hq] at hne;simp at hne
     | cons y r=>exact⟨y,r,rfl⟩
    have hyz:y.size≤2000:=Nat.le_trans (Sp.cut_size x 32 y (show y ∈ Sp.ws x by rw[hyr];exact List.mem_cons_self ..)) hxz
    have HYR:=hde hyr
    clear hyr hne
    have hi7':i < 7:=by omega
    go_wp2_with fail
    refine(split_any x 32 32 rfl (by omega) _ (by omega)).mono ?_
    rintro e w2 ⟨v2,rfl,ho2,hb2⟩
    have ho2':w2.ownsRow wr.heap.size 9 1 v2 (r.length+1) ((y :: r).map Value.string):=by
     have h1:=uh HYR
     unfold Sp.ws at h1
     rw[h1] at ho2
     exact ho2
    clear ho2
    obtain⟨g2,cap2,rfl⟩:=own_form ho2' (by omega)
    go_wp2_with fail
    refine(head_any i _ hi7').mono ?_
    rintro e w3 ⟨⟨hbs,rfl,hhd⟩,hb3⟩
    have HHD:=hde hhd
    clear hhd
    have hb23:Below wr.heap.size wr w3:=hb2.trans (hb3.mono hb2.size)
    have hPl:=(Array.getElem?_eq_some_iff.1 hP).1
    have hP3:=(hb23.block _ hPl).trans hP
    have hR3:=(hb23.block _ (Nat.lt_of_lt_of_le hRl hsz)).trans hR
    have hbw3:Below w.heap.size w w3:=hbw.trans (hb23.mono hbw.size)
    have ho3:=obl ho2' hb3
    have hgy:w3.cell? ⟨g2,0,none⟩=some (.string y):=(ho3.cellAt 0 (by omega)).trans (by simp)
    have hSA:SAt w3 (some ⟨g2,1,none⟩) r:=fun j hj=>⟨g2,1,rfl,(ho3.lt g2 rfl).2,by rw[ho3.cellAt (1+j) (by omega),Nat.add_comm 1 j];simp[hj]⟩
    have HLO:Hid (Sp.lineOk i x=(decide (y.data.toList=Sp.hd i) && (if 5≤i then decide (r.length=1) && decide ((r.headD ⟨#[]⟩).data.toList ∈ Sp.combsL) else Sp.fmd (i == 2) (lst r) 0 && !r.isEmpty))):=by
     show _=_
     unfold Sp.lineOk
     rw[uh HYR];rfl
    have HERR:Hid (Sp.lineOk i x=false→Sp.comp s=(3,(i:Int))):=by
     intro hf
     unfold Sp.comp
     rw[if_neg (by omega),Sp.first_some (k:=i) (by rw[uh HNN];omega) (fun j hj=>by rw[(uh HOK) j hj];rfl) (by rw[uh HX,hf];rfl)]
    have HWD:Hid (Wds r):=by
     intro z hz
     have hm:z ∈ Sp.ws x:=by rw[uh HYR];exact List.mem_cons_of_mem _ hz
     exact⟨Sp.ws_no z hm,Nat.le_trans (Sp.cut_size x 32 z hm) (by omega)⟩
    have hrl:r.length≤2001:=by
     have h1:=(Sp.split_len x 32).2
     have h2:=uh HYR
     unfold Sp.ws at h2
     rw[h2] at h1
     simp at h1
     omega
    have hcap:r.length+1≤cap2:=by
     rcases ho3.2 with ⟨e1,_⟩ | ⟨g',cap',cur,e1,_,_,hnc,_⟩
     ·cases e1
     ·injection e1 with _ _ e3
      rw[e3];exact hnc
    obtain⟨k0,k1,k2,k3,k4,k5,k6,kf⟩:=blk7_cell hP3
    obtain⟨r0,r1,r2,r3,r4,r5,r6,rf⟩:=blk7_cell hR3
    have f0:=rf 0
    have f1:=rf 1
    have f2:=rf 2
    have f3:=rf 3
    have f4:=rf 4
    have f5:=rf 5
    have f6:=rf 6
    have HGR:Hid (w1.grownBy w3 (some (w.heap.size+1))):=grown_trans hgr (grown_below hb23)
    have HHP:=hde hP3
    have HCA3:Hid (CodesAt s w3 (w.heap.size+1) #[.slice p0 n0 q0,.slice p1 n1 q1,.slice p2 n2 q2,.slice p3 n3 q3,.slice p4 n4 q4,.string b5,.string b6] i):=fun j hj hj5=>by
     obtain⟨p,cap,e1,e2,e3⟩:=(uh HCA) j hj hj5
     exact⟨p,cap,e1,e2.below hb23,e3⟩
    have hg2P:w.heap.size+1 < g2:=by
     have h1:=(ho3.lt g2 rfl).1
     omega
    have HCAP:=hde hcap
    clear hb2 hb3 hb23 hP hR hP3 hR3 hgr hgx ho2' hbw
    by_cases hm:y.data.toList=Sp.hd i
    ·have gm:(y.toList == hbs.toList)=true:=by rw[beq_iff_eq,toL,toL,uh HHD];exact hm
     have HM:=hde hm
     clear hm
     have hrz:(0:Int)≤(r.length:Int):=by omega
     by_cases hc1:cap2=1
     ·have hrn:r=[]:=List.eq_nil_of_length_eq_zero (by have:=uh HCAP;omega)
      have HE:Hid (Sp.comp s=(3,(i:Int))):=(uh HERR) (by
       rw[uh HLO,hrn]
       by_cases h5:5≤i
       ·rw[if_pos h5];simp
       ·rw[if_neg h5];simp)
      subst hrn hc1
      by_cases h5:5≤i
      ·have h5z:(5:Int)≤(i:Int):=by omega
       go_wp2
       refine bodyPost_ret (v := .tuple #[progV (.slice p0 n0 q0) (.slice p1 n1 q1) (.slice p2 n2 q2) (.slice p3 n3 q3) (.slice p4 n4 q4) (.string b5) (.string b6),.int .i64 3,.int .i64 (i:Int)]) (by simp[results,Tryz.results54,go_sem,progV,r0,r1,r2,r3,r4,r5,r6]) rfl ?_
       exact rcomp_err (uh HE) ((((((((hbw3.setCell nlr _).setCell nlr _).setCell nlr _).setCell nlr _).setCell nlr _).setCell nlr _).setCell nlr _))
      ·have h5z:¬ (5:Int)≤(i:Int):=by omega
       have HFC:Hid (∀ p c wt,Calls Tryz.prog 109 #[.slice p 0 c,.bool wt] w3 fun e w'=>e = .returned (.bool false)∧w'=w3):=by
        intro p c wt
        have hcc:=formed_any p c wt [] w3 (fun j hj=>by simp at hj) (by simp) (fun z hz=>by simp at hz)
        simpa using hcc
       go_wp2_with (go_at_call 109;go_must (refine((uh HFC) _ _ _).mono ?_);rintro e w4 ⟨rfl,hw4⟩;obtain rfl:=hw4.symm)
       refine bodyPost_ret (v := .tuple #[progV (.slice p0 n0 q0) (.slice p1 n1 q1) (.slice p2 n2 q2) (.slice p3 n3 q3) (.slice p4 n4 q4) (.string b5) (.string b6),.int .i64 3,.int .i64 (i:Int)]) (by simp[results,Tryz.results54,go_sem,progV,r0,r1,r2,r3,r4,r5,r6]) rfl ?_
       exact rcomp_err (uh HE) ((((((((hbw3.setCell nlr _).setCell nlr _).setCell nlr _).setCell nlr _).setCell nlr _).setCell nlr _).setCell nlr _))
     ·have hc2:(1:Int) < (cap2:Int):=by have:=uh HCAP;omega
      have hc3:(r.length:Int)+1≤(cap2:Int):=by have:=uh HCAP;omega
      by_cases h5:5≤i
      ·have h5z:(5:Int)≤(i:Int):=by omega
       by_cases hr1:r.length=1
       ·obtain⟨z,rfl⟩:∃ z,r=[z]:=by
         match r,hr1 with
         | [z],_=>exact⟨z,rfl⟩
        obtain⟨g2',off',e1,_,hgz⟩:=hSA 0 (by simp)
        injection e1 with e1
        injection e1 with e1 e2
        subst e1 e2
        have hgz':w3.cell? ⟨g2,1,none⟩=some (.string z):=hgz
        have hwz:=(uh HWD) z (List.mem_cons_self ..)
        obtain⟨cb,HCB⟩:∃ cb:Bool,Hid (cb=decide (z.data.toList ∈ Sp.combsL)):=⟨_,rfl⟩
        have HIN:Hid (Calls Tryz.prog 108 #[.string ⟨#[32,109,105,110,32,109,97,120,32,115,117,109,32]⟩,.string z] w3 fun e w'=>e = .returned (.bool cb)∧w'=w3):=by
         refine(in_any ⟨#[32,109,105,110,32,109,97,120,32,115,117,109,32]⟩ z w3 (by decide) hwz.2).mono ?_
         rintro e w' ⟨rfl,hw'⟩
         refine⟨?_,hw'⟩
         congr 2
         rw[uh HCB]
         exact decide_eq_decide.2 (Sp.in_combs hwz.1)
        clear hgz hr1
        simp only[List.length_cons,List.length_nil,Nat.zero_add,Nat.reduceAdd] at *
        cases cb with
        | false =>
         have HE:Hid (Sp.comp s=(3,(i:Int))):=(uh HERR) (by
          have hc:=of_decide_eq_false (uh HCB).symm
          rw[uh HLO,decide_eq_true (uh HM),if_pos h5];simp[hc])
         go_wp2_with (go_at_call 108;go_must (refine(uh HIN).mono ?_);rintro e w4 ⟨rfl,hw4⟩;obtain rfl:=hw4.symm)
         refine bodyPost_ret (v := .tuple #[progV (.slice p0 n0 q0) (.slice p1 n1 q1) (.slice p2 n2 q2) (.slice p3 n3 q3) (.slice p4 n4 q4) (.string b5) (.string b6),.int .i64 3,.int .i64 (i:Int)]) (by simp[results,Tryz.results54,go_sem,progV,r0,r1,r2,r3,r4,r5,r6]) rfl ?_
         exact rcomp_err (uh HE) ((((((((hbw3.setCell nlr _).setCell nlr _).setCell nlr _).setCell nlr _).setCell nlr _).setCell nlr _).setCell nlr _))
        | true =>
         by_cases e5:i=5
         ·have g5:((i:Int) == 5)=true:=by rw[beq_iff_eq];omega
          have kf5:=kf 5
          have HCM2:Hid (CombsAt s ((#[.slice p0 n0 q0,.slice p1 n1 q1,.slice p2 n2 q2,.slice p3 n3 q3,.slice p4 n4 q4,.string b5,.string b6]:Array Value).setIfInBounds 5 (.string z)) (i+1)):=by
           have h1:=CombsAt.next (i:=i) (uh HCM) (uh hCs).1 (by omega) (z:=z) (by unfold tw;rw[uh HX,uh HYR];rfl)
           rw[e5] at h1 ⊢
           exact h1
          have HOK2:Hid (∀ j,j < i+1→Sp.lineOk j ((Sp.split s 10).getD j ⟨#[]⟩)=true):=by
           intro j hj
           by_cases e:j=i
           ·rw[e,uh HX,uh HLO,decide_eq_true (uh HM),if_pos h5]
            have hc:=of_decide_eq_true (uh HCB).symm
            simp[hc]
           ·exact(uh HOK) j (by omega)
          go_wp2_with (go_at_call 108;go_must (refine(uh HIN).mono ?_);rintro e w4 ⟨rfl,hw4⟩;obtain rfl:=hw4.symm)
          go_roundw
          case rel =>
           refine⟨i+1,_,by go_num,by omega,by omega,blk_set (uh HHP) _,Shp.set (uh hCs) (i:=5) (by omega) (fun hc=>by omega) (fun _=>⟨_,rfl⟩),grown_trans (uh HGR) (grown_set7 _ _ _ _),HOK2,?_,HCM2⟩
           have h6:=CodesAt.next (i:=5) (v := .string z) (fun j hj hj5=>(uh HCA3) j (by omega) hj5) (uh hCs).1 (grown_set7 w3 (w.heap.size+1) 5 (.string z)) (by omega) (fun hc=>by omega)
           intro j hj hj5
           exact h6 j (by omega) hj5
          case measure=>simp[intOf];omega
         ·have g5:((i:Int) == 5)=false:=by rw[beq_eq_false_iff_ne];omega
          have kf6:=kf 6
          have HCM2:Hid (CombsAt s ((#[.slice p0 n0 q0,.slice p1 n1 q1,.slice p2 n2 q2,.slice p3 n3 q3,.slice p4 n4 q4,.string b5,.string b6]:Array Value).setIfInBounds 6 (.string z)) (i+1)):=by
           have h1:=CombsAt.next (i:=i) (uh HCM) (uh hCs).1 (by omega) (z:=z) (by unfold tw;rw[uh HX,uh HYR];rfl)
           have e6:i=6:=by omega
           rw[e6] at h1 ⊢
           exact h1
          have HOK2:Hid (∀ j,j < i+1→Sp.lineOk j ((Sp.split s 10).getD j ⟨#[]⟩)=true):=by
           intro j hj
           by_cases e:j=i
           ·rw[e,uh HX,uh HLO,decide_eq_true (uh HM),if_pos h5]
            have hc:=of_decide_eq_true (uh HCB).symm
            simp[hc]
           ·exact(uh HOK) j (by omega)
          go_wp2_with (go_at_call 108;go_must (refine(uh HIN).mono ?_);rintro e w4 ⟨rfl,hw4⟩;obtain rfl:=hw4.symm)
          go_roundw
          case rel =>
           refine⟨i+1,_,by go_num,by omega,by omega,blk_set (uh HHP) _,Shp.set (uh hCs) (i:=6) (by omega) (fun hc=>by omega) (fun _=>⟨_,rfl⟩),grown_trans (uh HGR) (grown_set7 _ _ _ _),HOK2,?_,HCM2⟩
           have h6:=CodesAt.next (i:=6) (v := .string z) (fun j hj hj5=>(uh HCA3) j (by omega) hj5) (uh hCs).1 (grown_set7 w3 (w.heap.size+1) 6 (.string z)) (by omega) (fun hc=>by omega)
           intro j hj hj5
           exact h6 j (by omega) hj5
          case measure=>simp[intOf];omega
       ·have hr1z:((r.length:Int) != 1)=true:=by rw[bne_iff_ne];omega
        have HE:Hid (Sp.comp s=(3,(i:Int))):=(uh HERR) (by rw[uh HLO,if_pos h5,decide_eq_false hr1];simp)
        go_wp2
        refine bodyPost_ret (v := .tuple #[progV (.slice p0 n0 q0) (.slice p1 n1 q1) (.slice p2 n2 q2) (.slice p3 n3 q3) (.slice p4 n4 q4) (.string b5) (.string b6),.int .i64 3,.int .i64 (i:Int)]) (by simp[results,Tryz.results54,go_sem,progV,r0,r1,r2,r3,r4,r5,r6]) rfl ?_
        exact rcomp_err (uh HE) ((((((((hbw3.setCell nlr _).setCell nlr _).setCell nlr _).setCell nlr _).setCell nlr _).setCell nlr _).setCell nlr _))
      ·have h5z:¬ (5:Int)≤(i:Int):=by omega
       obtain⟨fb,HFB⟩:∃ fb,Hid ((Sp.fmd (i == 2) (lst r) 0 && !r.isEmpty)=fb):=⟨_,rfl⟩
       obtain⟨wt,HWT⟩:∃ wt,Hid ((i == 2)=wt):=⟨_,rfl⟩
       have hwt:((i:Int) == 2)=wt:=by
        have h1:=uh HWT
        rw[← h1]
        by_cases e2:i=2
        ·subst e2;rfl
        ·rw[beq_eq_false_iff_ne.2 e2,beq_eq_false_iff_ne];omega
       have HFC:Hid (∀ c,Calls Tryz.prog 109 #[.slice (some ⟨g2,1,none⟩) r.length c,.bool wt] w3 fun e w'=>e = .returned (.bool fb)∧w'=w3):=by
        intro c
        have hcc:=formed_any (some ⟨g2,1,none⟩) c wt r w3 hSA (by omega) (uh HWD)
        rw[← uh HWT,uh HFB] at hcc
        rw[uh HWT] at hcc
        exact hcc
       cases fb with
       | false =>
        have HE:Hid (Sp.comp s=(3,(i:Int))):=(uh HERR) (by rw[uh HLO,decide_eq_true (uh HM),if_neg h5,uh HFB];rfl)
        go_wp2_with (go_at_call 109;go_must (refine((uh HFC) _).mono ?_);rintro e w4 ⟨rfl,hw4⟩;obtain rfl:=hw4.symm)
        refine bodyPost_ret (v := .tuple #[progV (.slice p0 n0 q0) (.slice p1 n1 q1) (.slice p2 n2 q2) (.slice p3 n3 q3) (.slice p4 n4 q4) (.string b5) (.string b6),.int .i64 3,.int .i64 (i:Int)]) (by simp[results,Tryz.results54,go_sem,progV,r0,r1,r2,r3,r4,r5,r6]) rfl ?_
        exact rcomp_err (uh HE) ((((((((hbw3.setCell nlr _).setCell nlr _).setCell nlr _).setCell nlr _).setCell nlr _).setCell nlr _).setCell nlr _))
       | true =>
        obtain⟨pi,ni,qi,hci⟩:=(uh hCs).2.1 i (by omega)
        have hki:w3.cell? ⟨w.heap.size+1,i,none⟩=some (.slice pi ni qi):=by
         have:=cell_of_row w3 (w.heap.size+1) i _ _ (0,0) (uh HHP)
         rw[this];exact hci
        have kfi:=kf i
        have hi5z:(i:Int) < 5:=by omega
        have HOK2:Hid (∀ j,j < i+1→Sp.lineOk j ((Sp.split s 10).getD j ⟨#[]⟩)=true):=by
         intro j hj
         by_cases e:j=i
         ·subst e
          rw[uh HX,uh HLO,decide_eq_true (uh HM),if_neg h5,uh HFB];rfl
         ·exact(uh HOK) j (by omega)
        have HG2:Hid (w1.grownBy (w3.setCell ⟨w.heap.size+1,i,none⟩ (.slice (some ⟨g2,1,none⟩) r.length (cap2 - 1))) (some (w.heap.size+1))):=grown_trans (uh HGR) (grown_set7 _ _ _ _)
        have HTW:Hid (tw s i=r):=by show _=_;unfold tw;rw[uh HX,uh HYR];rfl
        clear hci
        go_wp2_with (go_at_call 109;go_must (refine((uh HFC) _).mono ?_);rintro e w4 ⟨rfl,hw4⟩;obtain rfl:=hw4.symm)
        go_roundw
        case rel =>
         refine⟨i+1,_,by go_num,by omega,by omega,blk_set (uh HHP) _,Shp.set (uh hCs) hi7' (fun _=>⟨_,_,_,rfl⟩) (fun hc=>by omega),uh HG2,HOK2,?_,fun j h5' hj=>by omega⟩
         refine CodesAt.next (uh HCA3) (uh hCs).1 (grown_set7 _ _ _ _) hi7' (fun _=>⟨some ⟨g2,1,none⟩,cap2 - 1,by rw[uh HTW],?_,?_⟩)
         ·rw[uh HTW];exact hSA.grown (grown_set7 _ _ _ _) (fun a ha=>by cases ha;exact hg2P)
         ·intro a ha;cases ha;exact hg2P
        case measure=>simp[intOf];omega
    ·have gm:(y.toList == hbs.toList)=false:=by rw[beq_eq_false_iff_ne,toL,toL,uh HHD];exact hm
     have HE:Hid (Sp.comp s=(3,(i:Int))):=(uh HERR) (by rw[uh HLO,decide_eq_false hm];rfl)
     clear hm
     go_wp2
     refine bodyPost_ret (v := .tuple #[progV (.slice p0 n0 q0) (.slice p1 n1 q1) (.slice p2 n2 q2) (.slice p3 n3 q3) (.slice p4 n4 q4) (.string b5) (.string b6),.int .i64 3,.int .i64 (i:Int)]) (by simp[results,Tryz.results54,go_sem,progV,r0,r1,r2,r3,r4,r5,r6]) rfl ?_
     exact rcomp_err (uh HE) ((((((((hbw3.setCell nlr _).setCell nlr _).setCell nlr _).setCell nlr _).setCell nlr _).setCell nlr _).setCell nlr _))
  ·have hltz:¬ (i:Int) < (n:Int):=by omega
   obtain rfl:i=n:=by omega
   have HF0:Hid (Sp.first (fun j=>!Sp.lineOk j ((Sp.split s 10).getD j ⟨#[]⟩)) (min 7 (Sp.split s 10).length)=none):=by
    show _=_
    rw[uh HNN]
    exact Sp.first_none (fun j hj=>by rw[(uh HOK) j (by omega)];rfl)
   by_cases h7:i < 7
   ·have h7z:(i:Int) < 7:=by omega
    have HE:Hid (Sp.comp s=(3,(i:Int))):=by
     show _=_
     unfold Sp.comp
     rw[if_neg (by omega),uh HF0]
     simp only
     rw[uh HNN,if_neg (by omega),if_pos h7]
    go_wp2
    refine bodyPost_ret (v := .tuple #[progV (.slice p0 n0 q0) (.slice p1 n1 q1) (.slice p2 n2 q2) (.slice p3 n3 q3) (.slice p4 n4 q4) (.string b5) (.string b6),.int .i64 3,.int .i64 (i:Int)]) (by simp[results,Tryz.results54,go_sem,progV,r0,r1,r2,r3,r4,r5,r6]) rfl ?_
    exact rcomp_err (uh HE) ((((((((hbw.setCell nlr _).setCell nlr _).setCell nlr _).setCell nlr _).setCell nlr _).setCell nlr _).setCell nlr _))
   ·have h7z:¬ (i:Int) < 7:=by omega
    have HCMP:Hid (Sp.comp s=match Sp.first (fun j=>decide (Sp.hgt (Sp.codeOf s j) (Sp.codeOf s j).length 0 (Sp.codeOf s j).length 0≠some 1)) 5 with | some j=>(7,(j:Int)) | none=>(0,0)):=by
     show _=_
     unfold Sp.comp
     rw[if_neg (by omega),uh HF0]
     simp only
     rw[uh HNN,if_neg (by omega),if_neg h7]
     generalize Sp.first _ 5=oo
     cases oo <;> rfl
    have HHP:=hde hP
    have HHR:=hde hR
    have hPl:=(Array.getElem?_eq_some_iff.1 hP).1
    clear k0 k1 k2 k3 k4 k5 k6 kf r0 r1 r2 r3 r4 r5 r6 rf f0 f1 f2 f3 f4 f5 f6 hP hR
    clear hPl hR0 hP0 hgr hsz hRl
    go_wp2
    go_loopw [11] (fun u wr2=>∃ k:Nat,u = .int .i64 k∧k≤5∧Hid (wr2.heap[w.heap.size+1]? = some (.cells #[.slice p0 n0 q0,.slice p1 n1 q1,.slice p2 n2 q2,.slice p3 n3 q3,.slice p4 n4 q4,.string b5,.string b6] 107 (0,0)))∧Hid (wr2.heap[w.heap.size]? = some (.cells nilP 107 (0,0)))∧Below w.heap.size w wr2∧Hid (CodesAt s wr2 (w.heap.size+1) #[.slice p0 n0 q0,.slice p1 n1 q1,.slice p2 n2 q2,.slice p3 n3 q3,.slice p4 n4 q4,.string b5,.string b6] i)∧Hid (∀ j,j < k→Sp.hgt (Sp.codeOf s j) (Sp.codeOf s j).length 0 (Sp.codeOf s j).length 0=some 1)) (fun u _=>6 - (intOf u).toNat)
    case atStart=>exact⟨0,rfl,by omega,HHP,HHR,hbw,HCA,fun j hj=>by omega⟩
    case round =>
     clear HHP HHR hbw HCA
     obtain⟨k,rfl,hk,HHP,HHR,hbw,HCA,HHG⟩:=hrel
     obtain⟨k0,k1,k2,k3,k4,k5,k6,kf⟩:=blk7_cell (uh HHP)
     obtain⟨r0,r1,r2,r3,r4,r5,r6,rf⟩:=blk7_cell (uh HHR)
     have f0:=rf 0
     have f1:=rf 1
     have f2:=rf 2
     have f3:=rf 3
     have f4:=rf 4
     have f5:=rf 5
     have f6:=rf 6
     by_cases hk5:k < 5
     ·have hk5z:(k:Int) < 5:=by omega
      obtain⟨pc,cc,hcc,hsa,hpb⟩:=(uh HCA) k (by omega) hk5
      have hki:wr.cell? ⟨w.heap.size+1,k,none⟩=some (.slice pc (tw s k).length cc):=by
       have h1:=cell_of_row wr (w.heap.size+1) k _ _ (0,0) (uh HHP)
       rw[h1];exact hcc
      have hlk:=(uh HOK) k (by omega)
      have hfm:Sp.fmd (k == 2) (lst (tw s k)) 0=true:=by
       unfold Sp.lineOk at hlk
       rw[if_neg (by omega)] at hlk
       simp only[Bool.and_eq_true] at hlk
       exact hlk.2.1
      have hline:(Sp.split s 10).getD k ⟨#[]⟩ ∈ Sp.split s 10:=by
       rw[List.getD_eq_getElem?_getD,List.getElem?_eq_getElem (by rw[uh HNN];omega)];exact List.getElem_mem _
      have hlz:=Sp.cut_size s 10 _ hline
      have hWd:Wds (tw s k):=by
       intro z hz'
       have hm:z ∈ Sp.ws ((Sp.split s 10).getD k ⟨#[]⟩):=List.mem_of_mem_tail hz'
       exact⟨Sp.ws_no z hm,Nat.le_trans (Sp.cut_size _ 32 z hm) (by omega)⟩
      have htl:(tw s k).length≤4000:=by
       have h1:=(Sp.split_len ((Sp.split s 10).getD k ⟨#[]⟩) 32).2
       unfold tw Sp.ws
       rw[List.length_tail]
       omega
      have hcod:=coded_of hWd htl hfm
      obtain⟨o,HO⟩:∃ o,Hid (Sp.hgt (Sp.codeOf s k) (Sp.codeOf s k).length 0 (Sp.codeOf s k).length 0=o):=⟨_,rfl⟩
      have hcl:(Sp.codeOf s k).length=(tw s k).length:=by unfold Sp.codeOf tw;rw[List.length_map]
      have HC:Hid (∀ w',SAt w' pc (tw s k)→Calls Tryz.prog 110 #[.slice pc (tw s k).length cc,.int .i64 0,.int .i64 (tw s k).length,.int .i64 0] w' fun e w2=>e = .returned (.int .i64 (Sp.hI o))∧w2=w'):=by
       intro w' hs'
       have h1:=height_any (tw s k) hcod (tw s k).length pc cc 0 (tw s k).length 0 w' (by omega) hs' (by omega) nlr (by omega)
       have h2:Sp.hgt (lst (tw s k)) ((tw s k).length - 0) 0 (tw s k).length 0=o:=by
        rw[Nat.sub_zero,← uh HO,hcl];rfl
       rw[h2] at h1
       exact h1
      clear hcc hlk hfm hline hlz hWd hcod hcl
      have HTL:=hde htl
      obtain⟨lw,HLW⟩:∃ lw,Hid ((tw s k).length=lw):=⟨_,rfl⟩
      rw[uh HLW] at hki
      have HC2:Hid (∀ w',SAt w' pc (tw s k)→Calls Tryz.prog 110 #[.slice pc lw cc,.int .i64 0,.int .i64 lw,.int .i64 0] w' fun e w2=>e = .returned (.int .i64 (Sp.hI o))∧w2=w'):=by
       intro w' hs'
       have h1:=(uh HC) w' hs'
       rw[uh HLW] at h1
       exact h1
      have HSA:=hde hsa
      clear hsa HC
      obtain⟨ov,HOV⟩:∃ ov,Hid (Sp.hI o=ov):=⟨_,rfl⟩
      rw[uh HOV] at HC2
      have HSQ:Hid (∀ m,SAt (wr.drewN m) pc (tw s k)):=fun m=>(uh HSA).below (below_drewN _ _)
      have hlw:lw≤4000:=by have:=uh HLW;have:=uh HTL;omega
      by_cases ho1:o=some 1
      ·have hov:ov=1:=by rw[← uh HOV,ho1];rfl
       subst hov
       have HHG2:Hid (∀ j,j < k+1→Sp.hgt (Sp.codeOf s j) (Sp.codeOf s j).length 0 (Sp.codeOf s j).length 0=some 1):=by
        intro j hj
        by_cases e:j=k
        ·rw[e,uh HO,ho1]
        ·exact(uh HHG) j (by omega)
       clear ho1
       go_wp2_with fail
       go_quiet (first | (go_at_call 110;exact Calls.quiet_of_same ((uh HC2) _ ((uh HSQ) _))))
       go_wp2
       go_roundw
       case rel=>exact⟨k+1,by go_num,by omega,((below_drewN wr _).block _ (Array.getElem?_eq_some_iff.1 (uh HHP)).1).trans (uh HHP),((below_drewN wr _).block _ (Array.getElem?_eq_some_iff.1 (uh HHR)).1).trans (uh HHR),hbw.trans ((below_drewN wr _).mono hbw.size),(fun j hj hj5=>by obtain⟨p,cap,e1,e2,e3⟩:=(uh HCA) j hj hj5;exact⟨p,cap,e1,e2.below (below_drewN _ _),e3⟩),HHG2⟩
       case measure=>simp[intOf];omega
      ·have hne:ov≠1:=by
        rw[← uh HOV]
        intro hc
        apply ho1
        cases o with
        | none=>have hc':(-1:Int)=1:=hc;omega
        | some v=>have hc':(v:Int)=1:=hc;rw[show v=1 by omega]
       have gne:(ov != 1)=true:=by rw[bne_iff_ne];exact hne
       have HE:Hid (Sp.comp s=(7,(k:Int))):=by
        show _=_
        rw[uh HCMP,Sp.first_some (k:=k) hk5 (fun j hj=>by rw[decide_eq_false];intro hc;exact hc ((uh HHG) j hj)) (decide_eq_true (by rw[uh HO];exact ho1))]
       clear hne ho1
       have hbq:∀ m,Below w.heap.size w (wr.drewN m):=fun m=>hbw.trans ((below_drewN wr _).mono hbw.size)
       go_wp2_with fail
       go_quiet (first | (go_at_call 110;exact Calls.quiet_of_same ((uh HC2) _ ((uh HSQ) _))))
       go_wp2
       refine bodyPost_ret (v := .tuple #[progV (.slice p0 n0 q0) (.slice p1 n1 q1) (.slice p2 n2 q2) (.slice p3 n3 q3) (.slice p4 n4 q4) (.string b5) (.string b6),.int .i64 7,.int .i64 (k:Int)]) (by simp[results,Tryz.results54,go_sem,progV,r0,r1,r2,r3,r4,r5,r6]) rfl ?_
       exact rcomp_err (uh HE) (((((((((hbq _).setCell nlr _).setCell nlr _).setCell nlr _).setCell nlr _).setCell nlr _).setCell nlr _).setCell nlr _))
     ·have hk5z:¬ (k:Int) < 5:=by omega
      have HE:Hid (Sp.comp s=(0,0)):=by
       show _=_
       rw[uh HCMP,Sp.first_none (fun j hj=>by rw[decide_eq_false];intro hc;exact hc ((uh HHG) j (by omega)))]
      go_wp2
      refine bodyPost_ret (v := .tuple #[progV (.slice p0 n0 q0) (.slice p1 n1 q1) (.slice p2 n2 q2) (.slice p3 n3 q3) (.slice p4 n4 q4) (.string b5) (.string b6),.int .i64 0,.int .i64 0]) (by simp[results,Tryz.results54,go_sem,progV,r0,r1,r2,r3,r4,r5,r6]) rfl ?_
      have hi7e:i=7:=by omega
      refine rcomp_ok (uh HE) ((((((((hbw.setCell nlr _).setCell nlr _).setCell nlr _).setCell nlr _).setCell nlr _).setCell nlr _).setCell nlr _)) ⟨⟨w.heap.size+1,?_⟩,?_⟩
      ·rw[hi7e] at HCA
       exact(((((((uh HCA).setR (by omega)).setR (by omega)).setR (by omega)).setR (by omega)).setR (by omega)).setR (by omega)).setR (by omega)
      ·rw[hi7e] at HCM
       exact uh HCM
def Sp.nms:List (List UInt8):=[[118,97,108,117,101],[111,108,100],[105,110],[103,111,116],[115,116,101,112],[105,100],[100,101,103],[97,108,108],[119,101,105,103,104,116],[43],[45],[42],[47],[37],[60],[61],[109,105,110],[109,97,120],[100,117,112],[100,114,111,112],[115,119,97,112],[111,118,101,114],[63],[91],[93]]
def wfn:List Nat:=[172,174,175,176,177,178,179,180,181,182,184,185,186,188,189,191,192,193,194,196,197,198,199,201,203]
def wordsV:Array Value := #[.string ⟨#[118,97,108,117,101]⟩,.bool false,.func (.func 172) #[] #[],
 .string ⟨#[111,108,100]⟩,.bool false,.func (.func 174) #[] #[],
 .string ⟨#[105,110]⟩,.bool false,.func (.func 175) #[] #[],
 .string ⟨#[103,111,116]⟩,.bool false,.func (.func 176) #[] #[],
 .string ⟨#[115,116,101,112]⟩,.bool false,.func (.func 177) #[] #[],
 .string ⟨#[105,100]⟩,.bool false,.func (.func 178) #[] #[],
 .string ⟨#[100,101,103]⟩,.bool false,.func (.func 179) #[] #[],
 .string ⟨#[97,108,108]⟩,.bool false,.func (.func 180) #[] #[],
 .string ⟨#[119,101,105,103,104,116]⟩,.bool true,.func (.func 181) #[] #[],
 .string ⟨#[43]⟩,.bool false,.func (.func 182) #[] #[],
 .string ⟨#[45]⟩,.bool false,.func (.func 184) #[] #[],
 .string ⟨#[42]⟩,.bool false,.func (.func 185) #[] #[],
 .string ⟨#[47]⟩,.bool false,.func (.func 186) #[] #[],
 .string ⟨#[37]⟩,.bool false,.func (.func 188) #[] #[],
 .string ⟨#[60]⟩,.bool false,.func (.func 189) #[] #[],
 .string ⟨#[61]⟩,.bool false,.func (.func 191) #[] #[],
 .string ⟨#[109,105,110]⟩,.bool false,.func (.func 192) #[] #[],
 .string ⟨#[109,97,120]⟩,.bool false,.func (.func 193) #[] #[],
 .string ⟨#[100,117,112]⟩,.bool false,.func (.func 194) #[] #[],
 .string ⟨#[100,114,111,112]⟩,.bool false,.func (.func 196) #[] #[],
 .string ⟨#[115,119,97,112]⟩,.bool false,.func (.func 197) #[] #[],
 .string ⟨#[111,118,101,114]⟩,.bool false,.func (.func 198) #[] #[],
 .string ⟨#[63]⟩,.bool false,.func (.func 199) #[] #[],
 .string ⟨#[91]⟩,.bool false,.func (.func 201) #[] #[],
 .string ⟨#[93]⟩,.bool false,.func (.func 203) #[] #[]]
def WordsAt (b:Nat) (w:World):Prop:=w.heap[b]? = some (.cells wordsV 322)
theorem words_any (w:World):Calls Tryz.prog 121 #[] w fun e w'=>e = .returned (.slice (some ⟨w.heap.size,0,none⟩) 25 25)∧Below w.heap.size w w'∧WordsAt w.heap.size w':=by
 go_enter Tryz.func121,Tryz.ntmps121
 go_wp2
 exact bodyPost_ret (v := .slice (some ⟨w.heap.size,0,none⟩) 25 25) (by simp[results,Tryz.results121,go_sem]) rfl ⟨rfl,(Below.refl _ _).alloc nlr _,Array.getElem?_push_size⟩
def wordNm (i:Nat):ByteArray:=⟨⟨Sp.nms[i]!⟩⟩
def wordWt (i:Nat):Bool:=i == 8
def wordFn (i:Nat):Value := .func (.func (wfn[i]!)) #[] #[]
theorem wv_nm:(i:Nat)→i < 25→wordsV[3 * i]? = some (.string (wordNm i))
 | 0,_=>rfl
 | 1,_=>rfl
 | 2,_=>rfl
 | 3,_=>rfl
 | 4,_=>rfl
 | 5,_=>rfl
 | 6,_=>rfl
 | 7,_=>rfl
 | 8,_=>rfl
 | 9,_=>rfl
 | 10,_=>rfl
 | 11,_=>rfl
 | 12,_=>rfl
 | 13,_=>rfl
 | 14,_=>rfl
 | 15,_=>rfl
 | 16,_=>rfl
 | 17,_=>rfl
 | 18,_=>rfl
 | 19,_=>rfl
 | 20,_=>rfl
 | 21,_=>rfl
 | 22,_=>rfl
 | 23,_=>rfl
 | 24,_=>rfl
 | n+25,h=>absurd h (by omega)
theorem wv_wt:(i:Nat)→i < 25→wordsV[3 * i+1]? = some (.bool (wordWt i))
 | 0,_=>rfl
 | 1,_=>rfl
 | 2,_=>rfl
 | 3,_=>rfl
 | 4,_=>rfl
 | 5,_=>rfl
 | 6,_=>rfl
 | 7,_=>rfl
 | 8,_=>rfl
 | 9,_=>rfl
 | 10,_=>rfl
 | 11,_=>rfl
 | 12,_=>rfl
 | 13,_=>rfl
 | 14,_=>rfl
 | 15,_=>rfl
 | 16,_=>rfl
 | 17,_=>rfl
 | 18,_=>rfl
 | 19,_=>rfl
 | 20,_=>rfl
 | 21,_=>rfl
 | 22,_=>rfl
 | 23,_=>rfl
 | 24,_=>rfl
 | n+25,h=>absurd h (by omega)
theorem wv_fn:(i:Nat)→i < 25→wordsV[3 * i+2]? = some (wordFn i)
 | 0,_=>rfl
 | 1,_=>rfl
 | 2,_=>rfl
 | 3,_=>rfl
 | 4,_=>rfl
 | 5,_=>rfl
 | 6,_=>rfl
 | 7,_=>rfl
 | 8,_=>rfl
 | 9,_=>rfl
 | 10,_=>rfl
 | 11,_=>rfl
 | 12,_=>rfl
 | 13,_=>rfl
 | 14,_=>rfl
 | 15,_=>rfl
 | 16,_=>rfl
 | 17,_=>rfl
 | 18,_=>rfl
 | 19,_=>rfl
 | 20,_=>rfl
 | 21,_=>rfl
 | 22,_=>rfl
 | 23,_=>rfl
 | 24,_=>rfl
 | n+25,h=>absurd h (by omega)
theorem words_cells {b:Nat} {w:World} (h:WordsAt b w) {i:Nat} (hi:i < 25) :
  w.cell? ⟨b,3 * i,none⟩=some (.string (wordNm i))∧w.cell? ⟨b,3 * i+1,none⟩=some (.bool (wordWt i))∧w.cell? ⟨b,3 * i+2,none⟩=some (wordFn i):=by
 unfold WordsAt at h
 refine⟨?_,?_,?_⟩ <;> simp only[World.cell?,h]
 ·exact wv_nm i hi
 ·exact wv_wt i hi
 ·exact wv_fn i hi
theorem WordsAt.below {b:Nat} {w w':World} (h:WordsAt b w) (hb:Below w.heap.size w w'):WordsAt b w':=(hb.block _ (lt_of_block h)).trans h
end Go.Proofs.YteflnddphpjahaaGreatDoor
