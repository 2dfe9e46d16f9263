import Derived.Test.YteflnddphpjahaaGreatDoorCmCqRtoCqM
import Derived.Deep.MidRow
import Derived.Deep.DeepCutAuto
set_option linter.unusedVariables false
set_option linter.unusedSimpArgs false
set_option maxRecDepth 100000
set_option maxHeartbeats 16000000
namespace Go.Proofs.YteflnddphpjahaaGreatDoor
open Go.RowKit
def shL:List Value:=[.string (shNm 0),.bool true,.bool false,.string (shNm 1),.bool true,.bool false,.string (shNm 2),.bool true,.bool true,.string (shNm 3),.bool true,.bool false,.string (shNm 4),.bool true,.bool false,.string (shNm 5),.bool false,.bool false,.string (shNm 6),.bool false,.bool false]
def ShapesAt (w:World):Prop:=w.rangeAt 0 0 shL
theorem ShapesAt.lt {w:World} (h:ShapesAt w):0 < w.heap.size:=World.block_lt_of_cell? w _ (h 0 _ rfl)
theorem ShapesAt.below {w w':World} {B:Nat} (h:ShapesAt w) (hb:Below B w w') (hB:0 < B):ShapesAt w':=fun j v hj=>(hb.cell (p:=⟨0,0+j,none⟩) hB).trans (h j v hj)
theorem sh_index:(i:Nat)→i < 7→∀ W:World,(Instr.index 181 (.agg shL.toArray) (.int .i64 i)).run Tryz.prog W = .ok (.agg #[.string (shNm i),.bool (decide (i < 5)),.bool (i == 2)]) W
 | 0,_=>fun W=>by kernel_rfl
 | 1,_=>fun W=>by kernel_rfl
 | 2,_=>fun W=>by kernel_rfl
 | 3,_=>fun W=>by kernel_rfl
 | 4,_=>fun W=>by kernel_rfl
 | 5,_=>fun W=>by kernel_rfl
 | 6,_=>fun W=>by kernel_rfl
 | n+7,h=>absurd h (by omega)
def prog0:Array Value := #[.slice none 0 0,.string ⟨#[]⟩,.int .i64 0,.nilFunc,.slice none 0 0,.string ⟨#[]⟩,.int .i64 0,.nilFunc,.slice none 0 0,.string ⟨#[]⟩,.int .i64 0,.nilFunc,.slice none 0 0,.string ⟨#[]⟩,.int .i64 0,.nilFunc,.slice none 0 0,.string ⟨#[]⟩,.int .i64 0,.nilFunc,.slice none 0 0,.string ⟨#[]⟩,.int .i64 0,.nilFunc,.slice none 0 0,.string ⟨#[]⟩,.int .i64 0,.nilFunc]
structure Lin (C:Array Value) (j:Nat) (p:Option Addr) (n cap:Nat) (b:ByteArray) (z:Int) (q:Bool) (F:Nat):Prop where
 c0:C[j * 4]? = some (.slice p n cap)
 c1:C[j * 4+1]? = some (.string b)
 c2:C[j * 4+2]? = some (.int .i64 z)
 c3:C[j * 4+3]? = some (fval q F)
structure LnsIn (X:List ByteArray) (w:World) (P:Nat) (C:Array Value) (i:Nat):Prop where
 size:C.size=28
 shape:∀ j,j < 7→∃ p n cap b z q F,Lin C j p n cap b z q F
 code:∀ j,j < i→j < 5→∃ g cap,C[j * 4]? = some (.slice (some ⟨g,0,none⟩) (wds (X.getD j ⟨#[]⟩)).length cap)∧P < g∧CodeAt w g (wds (X.getD j ⟨#[]⟩))
 comb:∀ j,j < i→5≤j→∃ k,k < 3∧C[j * 4+2]? = some (.int .i64 (cmNt k))∧C[j * 4+3]? = some (cmFn k)∧wds (X.getD j ⟨#[]⟩)=[Sp.combsL[k]!]
theorem prog0_lin:(j:Nat)→j < 7→Lin prog0 j none 0 0 ⟨#[]⟩ 0 false 0
 | 0,_=>⟨rfl,rfl,rfl,rfl⟩
 | 1,_=>⟨rfl,rfl,rfl,rfl⟩
 | 2,_=>⟨rfl,rfl,rfl,rfl⟩
 | 3,_=>⟨rfl,rfl,rfl,rfl⟩
 | 4,_=>⟨rfl,rfl,rfl,rfl⟩
 | 5,_=>⟨rfl,rfl,rfl,rfl⟩
 | 6,_=>⟨rfl,rfl,rfl,rfl⟩
 | n+7,h=>absurd h (by omega)
theorem lines0 (X:List ByteArray) (w:World) (P:Nat):LnsIn X w P prog0 0:=⟨rfl,fun j hj=>⟨_,_,_,_,_,_,_,prog0_lin j hj⟩,fun j hj=>absurd hj (by omega),fun j hj=>absurd hj (by omega)⟩
theorem LnsIn.below {X:List ByteArray} {w w':World} {P i:Nat} {C:Array Value} (h:LnsIn X w P C i) (hb:Below w.heap.size w w'):LnsIn X w' P C i :=
 ⟨h.size,h.shape,fun j hj h5=>by obtain⟨g,cap,a,b,c⟩:=h.code j hj h5;exact⟨g,cap,a,b,c.below hb⟩,h.comb⟩
def put4 (C:Array Value) (i:Nat) (a b c d:Value):Array Value:=(((C.setIfInBounds (i * 4) a).setIfInBounds (i * 4+1) b).setIfInBounds (i * 4+2) c).setIfInBounds (i * 4+3) d
theorem put4_size (C:Array Value) (i:Nat) (a b c d:Value):(put4 C i a b c d).size=C.size:=by simp[put4]
theorem put4_other {C:Array Value} {i j:Nat} {a b c d:Value} (h:j < i * 4∨i * 4+4≤j):(put4 C i a b c d)[j]? = C[j]?:=by
 unfold put4
 rw[Array.getElem?_setIfInBounds_ne (by omega),Array.getElem?_setIfInBounds_ne (by omega),Array.getElem?_setIfInBounds_ne (by omega),Array.getElem?_setIfInBounds_ne (by omega)]
theorem put4_same {C:Array Value} {i:Nat} {a b c d:Value} (h:i * 4+4≤C.size):(put4 C i a b c d)[i * 4]? = some a∧(put4 C i a b c d)[i * 4+1]? = some b∧(put4 C i a b c d)[i * 4+2]? = some c∧(put4 C i a b c d)[i * 4+3]? = some d:=by
 unfold put4
 refine⟨?_,?_,?_,?_⟩
 ·rw[Array.getElem?_setIfInBounds_ne (by omega),Array.getElem?_setIfInBounds_ne (by omega),Array.getElem?_setIfInBounds_ne (by omega),Array.getElem?_setIfInBounds_self,if_pos (by omega)]
 ·rw[Array.getElem?_setIfInBounds_ne (by omega),Array.getElem?_setIfInBounds_ne (by omega),Array.getElem?_setIfInBounds_self,if_pos (by simp;omega)]
 ·rw[Array.getElem?_setIfInBounds_ne (by omega),Array.getElem?_setIfInBounds_self,if_pos (by simp;omega)]
 ·rw[Array.getElem?_setIfInBounds_self,if_pos (by simp;omega)]
theorem LnsIn.next {X:List ByteArray} {w:World} {P i:Nat} {C:Array Value} {p:Option Addr} {n cap:Nat} {b:ByteArray} {z:Int} {F:Nat} {q:Bool} (h:LnsIn X w P C i) (hi:i < 7) (hP:w.heap[P]? = some (.cells C 178 (0,0)))
  (hc:i < 5→n=(wds (X.getD i ⟨#[]⟩)).length∧∃ g,p=some ⟨g,0,none⟩∧P < g∧CodeAt w g (wds (X.getD i ⟨#[]⟩)))
  (hm:5≤i→∃ k,k < 3∧z=cmNt k∧fval q F=cmFn k∧wds (X.getD i ⟨#[]⟩)=[Sp.combsL[k]!]) :
  LnsIn X ((((w.setCell ⟨P,i * 4,none⟩ (.slice p n cap)).setCell ⟨P,i * 4+1,none⟩ (.string b)).setCell ⟨P,i * 4+2,none⟩ (.int .i64 z)).setCell ⟨P,i * 4+3,none⟩ (fval q F)) P (put4 C i (.slice p n cap) (.string b) (.int .i64 z) (fval q F)) (i+1)
  ∧ ((((w.setCell ⟨P,i * 4,none⟩ (.slice p n cap)).setCell ⟨P,i * 4+1,none⟩ (.string b)).setCell ⟨P,i * 4+2,none⟩ (.int .i64 z)).setCell ⟨P,i * 4+3,none⟩ (fval q F)).heap[P]? = some (.cells (put4 C i (.slice p n cap) (.string b) (.int .i64 z) (fval q F)) 178 (0,0)):=by
 have hsz:=h.size
 obtain⟨s0,s1,s2,s3⟩:=put4_same (C:=C) (i:=i) (a := .slice p n cap) (b := .string b) (c := .int .i64 z) (d:=fval q F) (by omega)
 have b1:=blk_set (i:=i * 4) hP (.slice p n cap)
 have b2:=blk_set (i:=i * 4+1) b1 (.string b)
 have b3:=blk_set (i:=i * 4+2) b2 (.int .i64 z)
 have b4:=blk_set (i:=i * 4+3) b3 (fval q F)
 have hcode:∀ g L,CodeAt w g L→P < g→CodeAt ((((w.setCell ⟨P,i * 4,none⟩ (.slice p n cap)).setCell ⟨P,i * 4+1,none⟩ (.string b)).setCell ⟨P,i * 4+2,none⟩ (.int .i64 z)).setCell ⟨P,i * 4+3,none⟩ (fval q F)) g L:=fun g L hca hlt =>
  ((((hca.aside hP hlt (by decide) _ _).1.aside b1 hlt (by decide) _ _).1.aside b2 hlt (by decide) _ _).1.aside b3 hlt (by decide) _ _).1
 refine⟨⟨by rw[put4_size];exact hsz,fun j hj=>?_,fun j hj h5=>?_,fun j hj h5=>?_⟩,b4⟩
 ·by_cases e:j=i
  ·subst e;exact⟨p,n,cap,b,z,q,F,s0,s1,s2,s3⟩
  ·obtain⟨p',n',cap',b',z',q',F',c0,c1,c2,c3⟩:=h.shape j hj
   exact⟨p',n',cap',b',z',q',F',(put4_other (by omega)).trans c0,(put4_other (by omega)).trans c1,(put4_other (by omega)).trans c2,(put4_other (by omega)).trans c3⟩
 ·by_cases e:j=i
  ·subst e
   obtain⟨rfl,g,rfl,hlt,hca⟩:=hc h5
   exact⟨g,cap,s0,hlt,hcode _ _ hca hlt⟩
  ·obtain⟨g,cap',c0,hlt,hca⟩:=h.code j (by omega) h5
   exact⟨g,cap',(put4_other (by omega)).trans c0,hlt,hcode _ _ hca hlt⟩
 ·by_cases e:j=i
  ·subst e
   obtain⟨k,k3,rfl,hf,hw⟩:=hm h5
   exact⟨k,k3,s2,by rw[← hf];exact s3,hw⟩
  ·obtain⟨k,k3,c2,c3,hw⟩:=h.comb j (by omega) h5
   exact⟨k,k3,(put4_other (by omega)).trans c2,(put4_other (by omega)).trans c3,hw⟩
def LSPost (X:List ByteArray) (w:World) (e:Ending) (w':World):Prop :=
 Below w.heap.size w w'∧∃ i,i≤7∧i≤X.length∧(∀ j,j < i→Sp.lineOk j (X.getD j ⟨#[]⟩)=true) ∧
  ((i < 7∧(i=X.length∨(i < X.length∧Sp.lineOk i (X.getD i ⟨#[]⟩)=false))∧e = .returned (.tuple #[.pointer none,.int .i64 i,.bool false])) ∨
     (i=7∧X.length≠7∧∃ P,e = .returned (.tuple #[.pointer P,.int .i64 7,.bool false])) ∨
     (i=7∧X.length=7∧∃ P C,w.heap.size≤P∧e = .returned (.tuple #[.pointer (some ⟨P,0,none⟩),.int .i64 7,.bool true])∧w'.heap[P]? = some (.cells C 178 (0,0))∧LnsIn X w' P C 7))
structure LSInv (X:List ByteArray) (w wr:World) (i:Nat) (C:Array Value):Prop where
 i7:i≤7
 il:i≤X.length
 below:Below w.heap.size w wr
 prog:wr.heap[w.heap.size]? = some (.cells C 178 (0,0))
 words:WordsAt (w.heap.size+1) wr
 lines:LnsIn X wr w.heap.size C i
 ok:∀ j,j < i→Sp.lineOk j (X.getD j ⟨#[]⟩)=true
theorem CodeAt.drew {w:World} {g:Nat} {L:List (List UInt8)} (h:CodeAt w g L):CodeAt w.drew g L:=⟨h.lt,h.fn,h.mate⟩
theorem LSInv.drew {X:List ByteArray} {w wr:World} {i:Nat} {C:Array Value} (h:LSInv X w wr i C):LSInv X w wr.drew i C :=
 ⟨h.i7,h.il,h.below.drew,h.prog,h.words,⟨h.lines.size,h.lines.shape,fun j hj h5=>by obtain⟨g,cap,a,b,c⟩:=h.lines.code j hj h5;exact⟨g,cap,a,b,c.drew⟩,h.lines.comb⟩,h.ok⟩
structure Fam (i:Nat) (x:ByteArray) (wr W:World) (LB:Nat) (p:Option Addr) (n cap:Nat) (b:ByteArray) (z:Int) (f:Value):Prop where
 below:Below wr.heap.size wr W
 cells:W.heap[LB]? = some (.cells #[.slice p n cap,.string b,.int .i64 z,f] 175 (0,0))
 code:Sp.lineOk i x=true→i < 5→n=(wds x).length∧∃ g,p=some ⟨g,0,none⟩∧wr.heap.size≤g∧CodeAt W g (wds x)
theorem famA {i:Nat} {x:ByteArray} {wr W2 w3:World} {p:Option Addr} {n cap:Nat} {b:ByteArray} {z:Int} {f a0 a1 a2 a3:Value} (hba:Below wr.heap.size wr W2) (hz:wr.heap.size+2≤W2.heap.size) (hb3:Below W2.heap.size W2 w3) (hk:w3.heap[wr.heap.size+1]? = some (.cells #[a0,a1,a2,a3] 175 (0,0)))
  (hc:Sp.lineOk i x=true→i < 5→n=(wds x).length∧∃ g,p=some ⟨g,0,none⟩∧W2.heap.size≤g∧CodeAt w3 g (wds x)) :
  Fam i x wr ((((w3.setCell ⟨wr.heap.size+1,0,none⟩ (.slice p n cap)).setCell ⟨wr.heap.size+1,1,none⟩ (.string b)).setCell ⟨wr.heap.size+1,2,none⟩ (.int .i64 z)).setCell ⟨wr.heap.size+1,3,none⟩ f) (wr.heap.size+1) p n cap b z f:=by
 have b1:=blk_set (i:=0) hk (.slice p n cap)
 have b2:=blk_set (i:=1) b1 (.string b)
 have b3:=blk_set (i:=2) b2 (.int .i64 z)
 have b4:=blk_set (i:=3) b3 f
 refine⟨((((hba.trans (hb3.mono hba.size)).setCell (p:=⟨wr.heap.size+1,0,none⟩) (Nat.le_succ _) _).setCell (p:=⟨wr.heap.size+1,1,none⟩) (Nat.le_succ _) _).setCell (p:=⟨wr.heap.size+1,2,none⟩) (Nat.le_succ _) _).setCell (p:=⟨wr.heap.size+1,3,none⟩) (Nat.le_succ _) _,b4,fun hok h5=>?_⟩
 obtain⟨hn,g,hp,hg,hca⟩:=hc hok h5
 have hlt:wr.heap.size+1 < g:=by omega
 exact⟨hn,g,hp,by omega,((((hca.aside hk hlt (by decide) _ _).1.aside b1 hlt (by decide) _ _).1.aside b2 hlt (by decide) _ _).1.aside b3 hlt (by decide) _ _).1⟩
theorem famB {i:Nat} {x:ByteArray} {wr W2 w3:World} {p:Option Addr} {n cap:Nat} {b:ByteArray} {z:Int} {f:Value} (hba:Below wr.heap.size wr W2) (hb3:Below W2.heap.size W2 w3)
  (hc:Sp.lineOk i x=true→i < 5→n=(wds x).length∧∃ g,p=some ⟨g,0,none⟩∧W2.heap.size≤g∧CodeAt w3 g (wds x)) :
  Fam i x wr (w3.alloc (.cells #[.slice p n cap,.string b,.int .i64 z,f] 175)) w3.heap.size p n cap b z f:=by
 have hb:=hba.trans (hb3.mono hba.size)
 refine⟨hb.alloc hb.size _,heap_alloc_new w3 _,fun hok h5=>?_⟩
 obtain⟨hn,g,hp,hg,hca⟩:=hc hok h5
 exact⟨hn,g,hp,Nat.le_trans hba.size hg,hca.below ((Below.refl _ _).alloc nlr _)⟩
theorem fam_next {X:List ByteArray} {w wr W:World} {i:Nat} {C:Array Value} {x:ByteArray} {LB:Nat} {p:Option Addr} {n cap:Nat} {b:ByteArray} {z:Int} {q:Bool} {F:Nat} (hI:LSInv X w wr i C) (h7:i < 7) (hlx:i < X.length) (hx:X.getD i ⟨#[]⟩=x) (hF:Fam i x wr W LB p n cap b z (fval q F)) (hok:Sp.lineOk i x=true)
  (hm:Sp.lineOk i x=true→5≤i→∃ k,k < 3∧b=cmNm k∧z=cmNt k∧fval q F=cmFn k∧wds x=[Sp.combsL[k]!]) :
  LSInv X w ((((W.setCell ⟨w.heap.size,i * 4,none⟩ (.slice p n cap)).setCell ⟨w.heap.size,i * 4+1,none⟩ (.string b)).setCell ⟨w.heap.size,i * 4+2,none⟩ (.int .i64 z)).setCell ⟨w.heap.size,i * 4+3,none⟩ (fval q F)) (i+1) (put4 C i (.slice p n cap) (.string b) (.int .i64 z) (fval q F)):=by
 have hlt:w.heap.size < wr.heap.size:=(Array.getElem?_eq_some_iff.1 hI.prog).1
 have hP:W.heap[w.heap.size]? = some (.cells C 178 (0,0)):=(hF.below.block _ hlt).trans hI.prog
 have hbw:=hI.below.trans (hF.below.mono hI.below.size)
 obtain⟨hl,hp⟩:=(hI.lines.below hF.below).next (p:=p) (n:=n) (cap:=cap) (b:=b) (z:=z) (F:=F) (q:=q) h7 hP (fun h5=>by
  rw[hx]
  obtain⟨hn,g,hp,hg,hca⟩:=hF.code hok h5
  exact⟨hn,g,hp,by omega,hca⟩) (fun h5=>by
   rw[hx]
   obtain⟨k,k3,_,hz,hf,hw⟩:=hm hok h5
   exact⟨k,k3,hz,hf,hw⟩)
 refine⟨by omega,by omega,(((hbw.setCell (p:=⟨w.heap.size,i * 4,none⟩) nlr _).setCell (p:=⟨w.heap.size,i * 4+1,none⟩) nlr _).setCell (p:=⟨w.heap.size,i * 4+2,none⟩) nlr _).setCell (p:=⟨w.heap.size,i * 4+3,none⟩) nlr _,hp,?_,hl,fun j hj=>?_⟩
 ·have hw:=hI.words.below hF.below
  unfold WordsAt at hw ⊢
  rw[Below.heap_setCell _ _ _ _ (by simp),Below.heap_setCell _ _ _ _ (by simp),Below.heap_setCell _ _ _ _ (by simp),Below.heap_setCell _ _ _ _ (by simp)]
  exact hw
 ·by_cases e:j=i
  ·subst e;rw[hx];exact hok
  ·exact hI.ok j (by omega)
theorem fam_cells {X:List ByteArray} {w wr W:World} {i:Nat} {C:Array Value} {x:ByteArray} {LB:Nat} {p:Option Addr} {n cap:Nat} {b:ByteArray} {z:Int} {f:Value} (hI:LSInv X w wr i C) (h7:i < 7) (hF:Fam i x wr W LB p n cap b z f) :
  (∃ v,W.cell? ⟨w.heap.size,i * 4,none⟩=some v)∧(∃ v,W.cell? ⟨w.heap.size,i * 4+1,none⟩=some v)∧(∃ v,W.cell? ⟨w.heap.size,i * 4+2,none⟩=some v)∧(∃ v,W.cell? ⟨w.heap.size,i * 4+3,none⟩=some v)∧∀ j,W.frozen? ⟨w.heap.size,j,none⟩=false:=by
 have hlt:w.heap.size < wr.heap.size:=(Array.getElem?_eq_some_iff.1 hI.prog).1
 have hP:W.heap[w.heap.size]? = some (.cells C 178 (0,0)):=(hF.below.block _ hlt).trans hI.prog
 obtain⟨p',n',cap',b',z',q',F',c0,c1,c2,c3⟩:=hI.lines.shape i h7
 refine⟨⟨_,(cell_of_row W _ _ C _ _ hP).trans c0⟩,⟨_,(cell_of_row W _ _ C _ _ hP).trans c1⟩,⟨_,(cell_of_row W _ _ C _ _ hP).trans c2⟩,⟨_,(cell_of_row W _ _ C _ _ hP).trans c3⟩,fun j=>by simp[World.frozen?,hP]⟩
theorem readLines_any' (X:List ByteArray) (p:Option Addr) (cap:Nat) (w:World) (hX:SAt w p X) (hl:X.length≤2001) (hz:∀ x ∈ X,x.size≤2000) (hS:ShapesAt w) (hg:SplitOk w) :
  Calls Tryz.prog 67 #[.slice p X.length cap] w (LSPost X w):=by
 have HX:=hde hX
 have HZ:=hde hz
 have HS:=hde hS
 have HG:=hde hg
 clear hX hz hS hg
 generalize hO:LSPost X w=O
 replace hO:=hde hO
 go_enter Tryz.func67,Tryz.ntmps67
 go_wp2_with fail
 refine(words_any _).mono ?_
 rintro e w1 ⟨rfl,hb1,hw1⟩
 have hb2:Below w.heap.size w w1:=((Below.refl _ w).alloc nlr _).trans (hb1.mono (by simp))
 have hp1:w1.heap[w.heap.size]? = some (.cells prog0 178 (0,0)):=(hb1.block _ (by simp)).trans (heap_alloc_new w _)
 rw[World.size_alloc] at hw1
 have HI0:Hid (LSInv X w w1 0 prog0):=⟨by omega,by omega,hb2,hp1,hw1,lines0 _ _ _,fun j hj=>absurd hj (by omega)⟩
 have hsh:=(uh HS).below hb2 (uh HS).lt
 clear hb1 hb2 hp1 hw1
 iterate 12 (first | go_values | go_skip | go_guarded | go_step | go_upon | (simp only[Int.not_lt,Int.not_le] at *;go_simp))
 refine wp_load_mid 181 (.global 0) rfl 0 0 rfl shL _ hsh Tryz.underlying181 rfl (by kernel_rfl) ?_
 clear hsh
 go_wp2_with fail
 go_loopw [14] (fun u wr=>∃ (i:Nat) (C:Array Value),u = .int .i64 i∧Hid (LSInv X w wr i C)) (fun u _=>7 - (intOf u).toNat)
 case atStart=>exact⟨0,prog0,rfl,HI0⟩
 case round =>
  obtain⟨i,C,rfl,HI⟩:=hrel
  clear HI0
  have hi7:=(uh HI).i7
  have hil:=(uh HI).il
  by_cases h7:i < 7
  ·have c1:(i:Int) < 7:=by omega
   have hix:=sh_index i h7
   obtain⟨nm,HNM⟩:∃ nm,Hid (nm=shNm i):=⟨_,rfl⟩
   obtain⟨ic,HIC⟩:∃ ic,Hid (ic=decide (i < 5)):=⟨_,rfl⟩
   obtain⟨hw,HHW⟩:∃ hw,Hid (hw=(i == 2)):=⟨_,rfl⟩
   rw[← uh HNM,← uh HIC,← uh HHW] at hix
   by_cases hxl:i=X.length
   ·have c2:((i:Int) == (X.length:Int))=true:=by rw[hxl];exact beq_self_eq_true _
    have hfin:O (.returned (.tuple #[.pointer none,.int .i64 i,.bool false])) (wr.alloc (.cells #[.string nm,.bool ic,.bool hw] 180)):=by
     have hI:=uh HI
     rw[← uh hO]
     exact⟨hI.below.alloc hI.below.size _,i,hi7,hil,hI.ok,Or.inl ⟨h7,Or.inl hxl,rfl⟩⟩
    clear hxl
    go_wp2
    exact bodyPost_ret (v := .tuple #[.pointer none,.int .i64 i,.bool false]) (by simp[results,Tryz.results67,go_sem]) rfl hfin
   ·have c2:((i:Int) == (X.length:Int))=false:=beq_eq_false_iff_ne.2 (by omega)
    have c3:(i:Int) < (X.length:Int):=by omega
    have hlx:i < X.length:=by omega
    have g0:(0:Int)≤(i:Int):=Int.natCast_nonneg _
    have hI:=uh HI
    obtain⟨g,off,rfl,hgl,hcell⟩:=(uh HX) i hlx
    have hcx:wr.cell? ⟨g,off+i,none⟩=some (.string X[i]):=(hI.below.cell (p:=⟨g,off+i,none⟩) hgl).trans hcell
    have hxz:=(uh HZ) _ (List.getElem_mem hlx)
    have hXi:X.getD i ⟨#[]⟩=X[i]:=by rw[List.getD_eq_getElem?_getD,List.getElem?_eq_getElem hlx];rfl
    generalize X[i]=x at hcx hxz hXi
    have HXI:=hde hXi
    have hlt2:g < wr.heap.size:=Nat.lt_of_lt_of_le hgl hI.below.size
    have hcx2:(wr.alloc (.cells #[.string nm,.bool ic,.bool hw] 180)).cell? ⟨g,off+i,none⟩=some (.string x):=(((Below.refl wr.heap.size wr).alloc nlr _).cell (p:=⟨g,off+i,none⟩) hlt2).trans hcx
    have hcx3:((wr.alloc (.cells #[.string nm,.bool ic,.bool hw] 180)).alloc (.cells #[.slice none 0 0,.string ⟨#[]⟩,.int .i64 0,.nilFunc] 175)).cell? ⟨g,off+i,none⟩=some (.string x):=((((Below.refl wr.heap.size wr).alloc nlr _).alloc (by simp) _).cell (p:=⟨g,off+i,none⟩) hlt2).trans hcx
    have HBB:Hid (Below wr.heap.size wr (wr.alloc (.cells #[.string nm,.bool ic,.bool hw] 180)).drew):=((Below.refl wr.heap.size wr).alloc nlr _).drew
    have HBA:Hid (Below wr.heap.size wr ((wr.alloc (.cells #[.string nm,.bool ic,.bool hw] 180)).alloc (.cells #[.slice none 0 0,.string ⟨#[]⟩,.int .i64 0,.nilFunc] 175)).drew):=(((Below.refl wr.heap.size wr).alloc nlr _).alloc (by simp) _).drew
    have HL2:Hid (((wr.alloc (.cells #[.string nm,.bool ic,.bool hw] 180)).alloc (.cells #[.slice none 0 0,.string ⟨#[]⟩,.int .i64 0,.nilFunc] 175)).drew.heap[wr.heap.size+1]? = some (.cells #[.slice none 0 0,.string ⟨#[]⟩,.int .i64 0,.nilFunc] 175)):=by
     show _=_
     have h:=heap_alloc_new (wr.alloc (.cells #[.string nm,.bool ic,.bool hw] 180)) (.cells #[.slice none 0 0,.string ⟨#[]⟩,.int .i64 0,.nilFunc] 175)
     rw[World.size_alloc] at h
     exact h
    have HR:Hid (∀ W,Below wr.heap.size wr W→Calls Tryz.prog 122 #[.string x,.agg #[.string nm,.bool ic,.bool hw],.slice (some ⟨w.heap.size+1,0,none⟩) 25 25] W (RLPost i x W)):=by
     show ∀ W,_
     intro W hba
     rw[uh HNM,uh HIC,uh HHW]
     exact preadLine_any i h7 x (w.heap.size+1) W hxz (csplit_ok_below (uh HG) (hI.below.trans (hba.mono hI.below.size)) (uh HG).lt) (hI.words.below hba)
    clear hcell hXi hI hcx hlt2 hxl
    go_upto_region 8 with fail
    go_cut [9,10] (fun lp okv wx=>∃ (LB:Nat) (p3:Option Addr) (n3 cap3:Nat) (b3:ByteArray) (z3:Int) (F:Nat),lp = .pointer (some ⟨LB,0,none⟩)∧okv = .bool (Sp.lineOk i x)∧Hid (Fam i x wr wx LB p3 n3 cap3 b3 z3 (fval (fl i x) F))∧Hid (Sp.lineOk i x=true→5≤i→∃ k,k < 3∧b3=cmNm k∧z3=cmNt k∧fval (fl i x) F=cmFn k∧wds x=[Sp.combsL[k]!]))
    case first =>
     cases hq:fl i x with
     | true =>
      go_region_with (go_at_call 122;refine(uh HR _ ?_).mono ?_;(first | exact uh HBA | exact uh HBB);rintro e w3 ⟨hb3,p3,n3,cap3,b3,z3,f3,rfl,⟨F,hF⟩,hc3,hm3⟩;rw[hq] at hF;subst hF;unfold fval;have HC3:=hde hc3;have HM3:=hde hm3;have HB3:=hde hb3;clear hc3 hm3;(try (have hk:=(hb3.block (wr.heap.size+1) (by simp)).trans (uh HL2);obtain⟨k0,k1,k2,k3,kf⟩:=blk4 hk;have f0:=kf 0;have f1:=kf 1;have f2:=kf 2;have f3:=kf 3;have HK:=hde hk;clear kf hk));clear hb3)
      all_goals
       go_wp2_with fail
       go_meet
       refine⟨_,p3,n3,cap3,b3,z3,F,rfl,rfl,?_,by rw[hq];exact HM3⟩
       rw[hq]
       first
       | exact famA (uh HBA) (by simp) (uh HB3) (uh HK) (uh HC3)
       | exact famB (uh HBB) (uh HB3) (uh HC3)
     | false =>
      go_region_with (go_at_call 122;refine(uh HR _ ?_).mono ?_;(first | exact uh HBA | exact uh HBB);rintro e w3 ⟨hb3,p3,n3,cap3,b3,z3,f3,rfl,⟨F,hF⟩,hc3,hm3⟩;rw[hq] at hF;subst hF;unfold fval;have HC3:=hde hc3;have HM3:=hde hm3;have HB3:=hde hb3;clear hc3 hm3;(try (have hk:=(hb3.block (wr.heap.size+1) (by simp)).trans (uh HL2);obtain⟨k0,k1,k2,k3,kf⟩:=blk4 hk;have f0:=kf 0;have f1:=kf 1;have f2:=kf 2;have f3:=kf 3;have HK:=hde hk;clear kf hk));clear hb3)
      all_goals
       go_wp2_with fail
       go_meet
       refine⟨_,p3,n3,cap3,b3,z3,F,rfl,rfl,?_,by rw[hq];exact HM3⟩
       rw[hq]
       first
       | exact famA (uh HBA) (by simp) (uh HB3) (uh HK) (uh HC3)
       | exact famB (uh HBB) (uh HB3) (uh HC3)
    case rest =>
    obtain⟨LB,p3,n3,cap3,b3,z3,F,rfl,rfl,HFM,HM3⟩:=hcut
    clear HBA HBB HL2 HR hcx2 hcx3 hix
    cases hok:Sp.lineOk i x with
    | true =>
     cases hq:fl i x with
     | true =>
      rw[hq] at HFM HM3
      obtain⟨k0,k1,k2,k3,kf⟩:=blk4 (uh HFM).cells
      obtain⟨⟨v0,m0⟩,⟨v1,m1⟩,⟨v2,m2⟩,⟨v3,m3⟩,mf⟩:=fam_cells (uh HI) h7 (uh HFM)
      have j0:=mf (i * 4)
      have j1:=mf (i * 4+1)
      have j2:=mf (i * 4+2)
      have j3:=mf (i * 4+3)
      have HI2:=hde (fam_next (F:=F) (q:=true) (uh HI) h7 hlx (uh HXI) (uh HFM) hok (uh HM3))
      unfold fval at HI2 k3
      clear kf mf
      go_wp2_with fail
      go_region
      all_goals
       go_wp2
       go_roundw
       case rel=>exact⟨i+1,_,by go_num,LSInv.drew HI2⟩
       case measure=>simp[intOf];omega
     | false =>
      rw[hq] at HFM HM3
      obtain⟨k0,k1,k2,k3,kf⟩:=blk4 (uh HFM).cells
      obtain⟨⟨v0,m0⟩,⟨v1,m1⟩,⟨v2,m2⟩,⟨v3,m3⟩,mf⟩:=fam_cells (uh HI) h7 (uh HFM)
      have j0:=mf (i * 4)
      have j1:=mf (i * 4+1)
      have j2:=mf (i * 4+2)
      have j3:=mf (i * 4+3)
      have HI2:=hde (fam_next (F:=F) (q:=false) (uh HI) h7 hlx (uh HXI) (uh HFM) hok (uh HM3))
      unfold fval at HI2 k3
      clear kf mf
      go_wp2_with fail
      go_region
      all_goals
       go_wp2
       go_roundw
       case rel=>exact⟨i+1,_,by go_num,LSInv.drew HI2⟩
       case measure=>simp[intOf];omega
    | false =>
     have hfin:O (.returned (.tuple #[.pointer none,.int .i64 i,.bool false])) wc:=by
      have hI:=uh HI
      rw[← uh hO]
      exact⟨hI.below.trans ((uh HFM).below.mono hI.below.size),i,hi7,hil,hI.ok,Or.inl ⟨h7,Or.inr ⟨hlx,by rw[uh HXI];exact hok⟩,rfl⟩⟩
     go_wp2
     exact bodyPost_ret (v := .tuple #[.pointer none,.int .i64 i,.bool false]) (by simp[results,Tryz.results67,go_sem]) rfl hfin
  ·have e7:i=7:=by omega
   subst e7
   have hI:=uh HI
   by_cases hx7:X.length=7
   ·have c2:((X.length:Int) == 7)=true:=by rw[hx7];rfl
    have hfin:O (.returned (.tuple #[.pointer (some ⟨w.heap.size,0,none⟩),.int .i64 7,.bool true])) wr:=by
     rw[← uh hO]
     exact⟨hI.below,7,by omega,hil,hI.ok,Or.inr (Or.inr ⟨rfl,hx7,w.heap.size,C,Nat.le_refl _,rfl,hI.prog,hI.lines⟩)⟩
    clear hx7 hI
    go_wp2
    exact bodyPost_ret (v := .tuple #[.pointer (some ⟨w.heap.size,0,none⟩),.int .i64 7,.bool true]) (by simp[results,Tryz.results67,go_sem]) rfl hfin
   ·have c2:((X.length:Int) == 7)=false:=beq_eq_false_iff_ne.2 (by omega)
    have hfin:O (.returned (.tuple #[.pointer (some ⟨w.heap.size,0,none⟩),.int .i64 7,.bool false])) wr:=by
     rw[← uh hO]
     exact⟨hI.below,7,by omega,hil,hI.ok,Or.inr (Or.inl ⟨rfl,hx7,_,rfl⟩)⟩
    clear hx7 hI
    go_wp2
    exact bodyPost_ret (v := .tuple #[.pointer (some ⟨w.heap.size,0,none⟩),.int .i64 7,.bool false]) (by simp[results,Tryz.results67,go_sem]) rfl hfin
end Go.Proofs.YteflnddphpjahaaGreatDoor
