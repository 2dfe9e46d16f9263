import Derived.Test.YteflnddphpjahaaGreatDoorCmTabCtoGatB
import Derived.Deep.RegionHeld3
import Derived.Deep.DeepMust
import Derived.BigRegion
import Derived.Test.YteflnddphpjahaaGreatDoorCmCardAtoCopyK
import Derived.Deep.DeepCutAuto
import Derived.BigQuiet
import Derived.Laws.EntriesVeiled
import Derived.WalkSmall
set_option linter.unusedVariables false
set_option linter.unusedSimpArgs false
set_option maxRecDepth 100000
set_option maxHeartbeats 16000000
namespace Go.Proofs.YteflnddphpjahaaGreatDoor
open Go.RowKit
theorem isNaN_int (x:Int) (w:World):Calls Tryz.prog 171 #[.int .i64 x] w fun e w'=>e = .returned (.bool false)∧w'=w:=by
 have h:(x != x)=false:=by simp
 go_enter Tryz.func171,Tryz.ntmps171
 go_wp2
 go_ret
 exact⟨rfl,rfl⟩
theorem compare_int (x y:Int) (w:World):Calls Tryz.prog 120 #[.int .i64 x,.int .i64 y] w fun e w'=>e = .returned (.int .i64 (cmpI x y))∧w'=w:=by
 rcases Int.lt_trichotomy x y with h | h | h
 ·have e1:cmpI x y = -1:=if_pos h
  rw[e1];clear e1
  go_enter Tryz.func120,Tryz.ntmps120
  go_wp2_with (go_at_call 171;refine(isNaN_int _ _).mono ?_;rintro e w' ⟨rfl,rfl⟩)
  go_ret
  exact⟨rfl,rfl⟩
 ·subst h
  have e1:cmpI x x=0:=by simp[cmpI]
  rw[e1];clear e1
  have hx:¬ x < x:=Int.lt_irrefl x
  go_enter Tryz.func120,Tryz.ntmps120
  go_wp2_with (go_at_call 171;refine(isNaN_int _ _).mono ?_;rintro e w' ⟨rfl,rfl⟩)
  go_ret
  exact⟨rfl,rfl⟩
 ·have hn:¬ x < y:=by omega
  have e1:cmpI x y=1:=by unfold cmpI;rw[if_neg hn,if_pos h]
  rw[e1];clear e1
  go_enter Tryz.func120,Tryz.ntmps120
  go_wp2_with (go_at_call 171;refine(isNaN_int _ _).mono ?_;rintro e w' ⟨rfl,rfl⟩)
  go_ret
  exact⟨rfl,rfl⟩
def orI (x y:Int):Int:=if x=0 then y else x
theorem or_two (g:Nat) (x y:Int) (w:World) (h0:w.cell? ⟨g,0,none⟩=some (.int .i64 x)) (h1:w.cell? ⟨g,1,none⟩=some (.int .i64 y)) :
  Calls Tryz.prog 119 #[.slice (some ⟨g,0,none⟩) 2 2] w fun e w'=>e = .returned (.int .i64 (orI x y))∧w'=w:=by
 go_enter Tryz.func119,Tryz.ntmps119
 go_wp2
 go_loopw [8] (fun i wr=>wr=w∧(i = .int .i64 0∨(i = .int .i64 1∧Hid (x=0))∨(i = .int .i64 2∧Hid (x=0)∧Hid (y=0)))) (fun i _=>2 - (intOf i).toNat)
 case atStart=>exact⟨rfl,Or.inl rfl⟩
 case round =>
  obtain⟨rfl,hr⟩:=hrel
  rcases hr with rfl | ⟨rfl,HX⟩ | ⟨rfl,HX,HY⟩
  ·by_cases hx:x=0
   ·have HX:=hde hx
    have hx1:(x != 0)=false:=by simp[hx]
    clear hx
    go_wp2
    go_roundw
    case rel=>exact⟨by trivial,Or.inr (Or.inl ⟨rfl,HX⟩)⟩
    case measure=>simp[intOf]
   ·have hx1:(x != 0)=true:=by simp[hx]
    have HO:Hid (orI x y=x):=if_neg hx
    clear hx
    go_wp2
    go_ret
    exact⟨by rw[uh HO];rfl,rfl⟩
  ·have HO:Hid (orI x y=y):=if_pos (uh HX)
   by_cases hy:y=0
   ·have HY:=hde hy
    have hy1:(y != 0)=false:=by simp[hy]
    clear hy
    go_wp2
    go_roundw
    case rel=>exact⟨by trivial,Or.inr (Or.inr ⟨rfl,HX,HY⟩)⟩
    case measure=>simp[intOf]
   ·have hy1:(y != 0)=true:=by simp[hy]
    clear hy
    go_wp2
    go_ret
    exact⟨by rw[uh HO];rfl,rfl⟩
  ·have HO:Hid (orI x y=0):=(if_pos (uh HX)).trans (uh HY)
   go_wp2
   go_ret
   exact⟨by rw[uh HO];rfl,rfl⟩
def edVal (e:Sp.Ed):Value := .agg #[.int .i64 (e.frm:Int),.int .i64 (e.to:Int),.int .i64 e.n]
def cmpE (a b:Sp.Ed):Int:=orI (cmpI a.frm b.frm) (cmpI a.to b.to)
theorem cmpE_neg (a b:Sp.Ed):cmpE a b < 0↔(a.frm < b.frm∨(a.frm=b.frm∧a.to < b.to)):=by
 unfold cmpE orI cmpI
 repeat' split
 all_goals omega
theorem cell_new2 (W:World) (x y:Value) (e n:Nat) (hn:n=W.heap.size):(W.alloc (.cells #[x,y] e)).cell? ⟨n,0,none⟩=some x∧(W.alloc (.cells #[x,y] e)).cell? ⟨n,1,none⟩=some y:=by
 subst hn
 exact⟨cell_of_row _ _ 0 _ _ _ (heap_alloc_new W _),cell_of_row _ _ 1 _ _ _ (heap_alloc_new W _)⟩
theorem or_new (W:World) (n:Nat) (hn:n=W.heap.size) (x y:Int):Calls Tryz.prog 119 #[.slice (some ⟨n,0,none⟩) 2 2] (W.alloc (.cells #[.int .i64 x,.int .i64 y] 3)).drew fun e w'=>e = .returned (.int .i64 (orI x y))∧w'=(W.alloc (.cells #[.int .i64 x,.int .i64 y] 3)).drew :=
 or_two n x y _ (cell_new2 W _ _ _ n hn).1 (cell_new2 W _ _ _ n hn).2
theorem edgeCmp_any (a b:Sp.Ed) (w:World):Calls Tryz.prog 118 #[edVal a,edVal b] w fun e w'=>e = .returned (.int .i64 (cmpE a b))∧Below w.heap.size w w':=by
 unfold edVal
 unfold cmpE
 generalize ((a.frm:Nat):Int)=a0 at *
 generalize ((a.to:Nat):Int)=a1 at *
 generalize ((b.frm:Nat):Int)=b0 at *
 generalize ((b.to:Nat):Int)=b1 at *
 go_enter Tryz.func118,Tryz.ntmps118
 go_wp2_with fail
 go_region_held3 (fun w'=>(w'.cell? ⟨w.heap.size,0,none⟩=some (.int .i64 a0)∧w'.cell? ⟨w.heap.size,1,none⟩=some (.int .i64 a1))∧(w'.cell? ⟨w.heap.size+1,0,none⟩=some (.int .i64 b0)∧w'.cell? ⟨w.heap.size+1,1,none⟩=some (.int .i64 b1)))
  (go_keep)
  (first | (go_at_call 120;refine(compare_int _ _ _).mono ?_;rintro e w' ⟨rfl,hw⟩;obtain rfl:=hw.symm) | (go_at_call 119;refine(or_new _ _ (by simp) (cmpI a0 b0) (cmpI a1 b1)).mono ?_;rintro e w' ⟨rfl,hw⟩;obtain rfl:=hw.symm))
 go_wp2
 go_ret
 refine⟨rfl,?_⟩
 exact((((Below.refl _ _).alloc nlr _).alloc (by simp) _).alloc (by simp;omega) _).drew
theorem ed_len (E:List Sp.Ed):(edCells E).length=E.length * 3:=by
 induction E with
 | nil=>rfl
 | cons p t ih=>simp[edCells] at ih ⊢;omega
theorem ed_set (E:List Sp.Ed) (x:Sp.Ed):∀ j,j < E.length→(((edCells E).set (j * 3) (.int .i64 (x.frm:Int))).set (j * 3+1) (.int .i64 (x.to:Int))).set (j * 3+2) (.int .i64 x.n)=edCells (E.set j x):=by
 induction E with
 | nil=>intro j h;simp at h
 | cons p t ih =>
  intro j h
  have e:∀ (q:Sp.Ed) (u:List Sp.Ed),edCells (q :: u) = .int .i64 (q.frm:Int) :: .int .i64 (q.to:Int) :: .int .i64 q.n :: edCells u:=fun q u=>by simp[edCells]
  cases j with
  | zero=>simp[e]
  | succ j =>
   have:=ih j (by simpa using h)
   rw[List.set_cons_succ,e,e,← this,show (j+1) * 3=j * 3+1+1+1 by omega]
   simp[List.set_cons_succ]
def putE (w:World) (g j:Nat) (x:Sp.Ed):World:=((w.setCell ⟨g,j * 3,none⟩ (.int .i64 (x.frm:Int))).setCell ⟨g,j * 3+1,none⟩ (.int .i64 (x.to:Int))).setCell ⟨g,j * 3+2,none⟩ (.int .i64 x.n)
theorem own_put {w:World} {B e g cap:Nat} {X:List Sp.Ed} (h:w.ownsRow B e 3 (.slice (some ⟨g,0,none⟩) X.length cap) X.length (edCells X)) (j:Nat) (hj:j < X.length) (x:Sp.Ed) :
  (putE w g j x).ownsRow B e 3 (.slice (some ⟨g,0,none⟩) X.length cap) X.length (edCells (X.set j x))∧w.grownBy (putE w g j x) (some g):=by
 obtain⟨h1,h2⟩:=h
 rcases h2 with ⟨hv,hn⟩ | ⟨g',cap',cur,hv,hB,hg,hnc,hcm,hcs,ht⟩
 ·omega
 ·injection hv with e1 e2 e3
  injection e1 with e1
  injection e1 with e1
  subst e1 e3
  have s1:=setCell_eq_setRow w g (j * 3) cur e (0,0) (.int .i64 (x.frm:Int)) hg
  have g1:=setRow_heap w g cur (cur.setIfInBounds (j * 3) (.int .i64 (x.frm:Int))) e (0,0) hg
  have s2:=setCell_eq_setRow _ g (j * 3+1) _ e (0,0) (.int .i64 (x.to:Int)) g1
  have g2:=setRow_heap _ g _ ((cur.setIfInBounds (j * 3) (.int .i64 (x.frm:Int))).setIfInBounds (j * 3+1) (.int .i64 (x.to:Int))) e (0,0) g1
  have s3:=setCell_eq_setRow _ g (j * 3+2) _ e (0,0) (.int .i64 x.n) g2
  have g3:=setRow_heap _ g _ (((cur.setIfInBounds (j * 3) (.int .i64 (x.frm:Int))).setIfInBounds (j * 3+1) (.int .i64 (x.to:Int))).setIfInBounds (j * 3+2) (.int .i64 x.n)) e (0,0) g2
  have eW:putE w g j x=((w.setRow g (cur.setIfInBounds (j * 3) (.int .i64 (x.frm:Int)))).setRow g ((cur.setIfInBounds (j * 3) (.int .i64 (x.frm:Int))).setIfInBounds (j * 3+1) (.int .i64 (x.to:Int)))).setRow g (((cur.setIfInBounds (j * 3) (.int .i64 (x.frm:Int))).setIfInBounds (j * 3+1) (.int .i64 (x.to:Int))).setIfInBounds (j * 3+2) (.int .i64 x.n)):=by
   unfold putE;rw[s1,s2,s3]
  rw[eW]
  refine⟨⟨by rw[ed_len,List.length_set],.inr ⟨g,cap,_,rfl,hB,g3,hnc,hcm,by simpa using hcs,?_⟩⟩,⟨rfl,rfl,rfl,by simp[World.setRow],fun k hk hkg=>?_⟩⟩
  ·rw[← ed_set X x j hj,← ht]
   simp only[Array.toList_setIfInBounds,List.take_set]
  ·have hkg':k≠g:=fun e=>hkg (by rw[e])
   rw[setRow_other _ g k _ hkg',setRow_other _ g k _ hkg',setRow_other _ g k _ hkg']
theorem grown_trans {a b c:World} {r:Option Nat} (h:a.grownBy b r) (k:b.grownBy c r):a.grownBy c r :=
 ⟨k.os.trans h.os,k.tape.trans h.tape,k.output.trans h.output,Nat.le_trans h.size k.size,fun i hi hr=>(k.block i (Nat.lt_of_lt_of_le hi h.size) hr).trans (h.block i hi hr)⟩
theorem grown_below {w w':World} {r:Option Nat} (h:Below w.heap.size w w'):w.grownBy w' r:=⟨h.os,h.tape,h.output,h.size,fun k hk _=>h.block k hk⟩
theorem grown_refl (w:World) (r:Option Nat):w.grownBy w r:=⟨rfl,rfl,rfl,Nat.le_refl _,fun _ _ _=>rfl⟩
def exch (X:List Sp.Ed) (i j:Nat) (hi:i < X.length) (hj:j < X.length):List Sp.Ed:=(X.set i X[j]).set j X[i]
theorem own_exch {w:World} {B e g cap:Nat} {X:List Sp.Ed} (h:w.ownsRow B e 3 (.slice (some ⟨g,0,none⟩) X.length cap) X.length (edCells X)) (i j:Nat) (hi:i < X.length) (hj:j < X.length) :
  (putE (putE w g i X[j]) g j X[i]).drew.ownsRow B e 3 (.slice (some ⟨g,0,none⟩) X.length cap) X.length (edCells (exch X i j hi hj))∧w.grownBy (putE (putE w g i X[j]) g j X[i]).drew (some g):=by
 obtain⟨h1,k1⟩:=own_put h i hi X[j]
 have hl:(X.set i X[j]).length=X.length:=List.length_set
 have h1':=h1
 rw[← hl] at h1'
 obtain⟨h2,k2⟩:=own_put h1' j (by rw[hl];exact hj) X[i]
 rw[hl] at h2
 exact⟨obl h2 (Below.refl _ _).drew,grown_trans (grown_trans k1 k2) (grown_below (Below.refl _ _).drew)⟩
def Shp (C:Array Value):Prop:=C.size=7∧(∀ j,j < 5→∃ p n k,C[j]? = some (.slice p n k))∧(∀ j,5≤j→j < 7→∃ b,C[j]? = some (.string b))
theorem Shp.form {C:Array Value} (h:Shp C):∃ p0 n0 k0 p1 n1 k1 p2 n2 k2 p3 n3 k3 p4 n4 k4 b5 b6,C = #[.slice p0 n0 k0,.slice p1 n1 k1,.slice p2 n2 k2,.slice p3 n3 k3,.slice p4 n4 k4,.string b5,.string b6]:=by
 obtain⟨h1,h2,h3⟩:=h
 obtain⟨l⟩:=C
 match l,h1 with
 | [a,b,c,d,e,f,g],_ =>
  obtain⟨p0,n0,k0,e0⟩:=h2 0 (by omega)
  obtain⟨p1,n1,k1,e1⟩:=h2 1 (by omega)
  obtain⟨p2,n2,k2,e2⟩:=h2 2 (by omega)
  obtain⟨p3,n3,k3,e3⟩:=h2 3 (by omega)
  obtain⟨p4,n4,k4,e4⟩:=h2 4 (by omega)
  obtain⟨b5,e5⟩:=h3 5 (by omega) (by omega)
  obtain⟨b6,e6⟩:=h3 6 (by omega) (by omega)
  simp at e0 e1 e2 e3 e4 e5 e6
  exact⟨p0,n0,k0,p1,n1,k1,p2,n2,k2,p3,n3,k3,p4,n4,k4,b5,b6,by rw[e0,e1,e2,e3,e4,e5,e6]⟩
theorem Shp.set {C:Array Value} (h:Shp C) {i:Nat} (hi:i < 7) {v:Value} (h1:i < 5→∃ p n k,v = .slice p n k) (h2:5≤i→∃ b,v = .string b):Shp (C.setIfInBounds i v):=by
 obtain⟨a1,a2,a3⟩:=h
 refine⟨by simpa using a1,?_,?_⟩
 ·intro j hj
  by_cases e:i=j
  ·subst e
   obtain⟨p,n,k,rfl⟩:=h1 hj
   exact⟨p,n,k,by rw[Array.getElem?_setIfInBounds_self];rw[if_pos (by omega)]⟩
  ·rw[Array.getElem?_setIfInBounds_ne e];exact a2 j hj
 ·intro j hj hj2
  by_cases e:i=j
  ·subst e
   obtain⟨b,rfl⟩:=h2 hj
   exact⟨b,by rw[Array.getElem?_setIfInBounds_self];rw[if_pos (by omega)]⟩
  ·rw[Array.getElem?_setIfInBounds_ne e];exact a3 j hj hj2
def tw (s:ByteArray) (j:Nat):List ByteArray:=(Sp.ws ((Sp.split s 10).getD j ⟨#[]⟩)).tail
def CodesAt (s:ByteArray) (w:World) (P:Nat) (C:Array Value) (i:Nat):Prop := ∀ j,j < i→j < 5→∃ p cap,C[j]? = some (.slice p (tw s j).length cap)∧SAt w p (tw s j)∧∀ a,p=some a→P < a.block
def CombsAt (s:ByteArray) (C:Array Value) (i:Nat):Prop := ∀ j,5≤j→j < i→j < 7→C[j]? = some (.string ((tw s j).headD ⟨#[]⟩))
theorem CombsAt.next {s:ByteArray} {C:Array Value} {i:Nat} (h:CombsAt s C i) (hC:C.size=7) (hi:i < 7) {z:ByteArray} (hz:tw s i=[z]):CombsAt s (C.setIfInBounds i (.string z)) (i+1):=by
 intro j h5 hj h7
 by_cases e:i=j
 ·subst e
  rw[Array.getElem?_setIfInBounds_self,if_pos (by omega),hz];rfl
 ·rw[Array.getElem?_setIfInBounds_ne e];exact h j h5 (by omega) h7
theorem SAt.grown {w w':World} {p:Option Addr} {X:List ByteArray} {P:Nat} (h:SAt w p X) (hg:w.grownBy w' (some P)) (hp:∀ a,p=some a→P < a.block):SAt w' p X:=fun j hj=>by
 obtain⟨g,off,e,h1,h2⟩:=h j hj
 have:=hp _ e
 simp at this
 exact⟨g,off,e,Nat.lt_of_lt_of_le h1 hg.size,(hg.cell_far ⟨g,off+j,none⟩ h1 (by simp;omega)).trans h2⟩
theorem grown_set7 (w:World) (P i:Nat) (v:Value):w.grownBy (w.setCell ⟨P,i,none⟩ v) (some P):=
 ⟨rfl,rfl,rfl,by simp[World.setCell],fun k _ hk=>Below.heap_setCell _ _ _ k (fun e=>hk (by rw[e]))⟩
theorem blk_set {w:World} {P i:Nat} {C:Array Value} {t:Nat} (h:w.heap[P]? = some (.cells C t (0,0))) (v:Value):(w.setCell ⟨P,i,none⟩ v).heap[P]? = some (.cells (C.setIfInBounds i v) t (0,0)):=by
 rw[setCell_eq_setRow w P i C t (0,0) v h]
 exact setRow_heap w P _ _ t _ h
theorem CodesAt.next {s:ByteArray} {w w':World} {P i:Nat} {C:Array Value} {v:Value} (h:CodesAt s w P C i) (hC:C.size=7) (hg:w.grownBy w' (some P)) (hi:i < 7) (hv:i < 5→∃ p cap,v = .slice p (tw s i).length cap∧SAt w' p (tw s i)∧∀ a,p=some a→P < a.block):CodesAt s w' P (C.setIfInBounds i v) (i+1):=by
 intro j hj hj5
 by_cases e:i=j
 ·subst e
  obtain⟨p,cap,e1,e2,e3⟩:=hv hj5
  exact⟨p,cap,by rw[Array.getElem?_setIfInBounds_self,if_pos (by omega),e1],e2,e3⟩
 ·obtain⟨p,cap,e1,e2,e3⟩:=h j (by omega) hj5
  exact⟨p,cap,by rw[Array.getElem?_setIfInBounds_ne e];exact e1,e2.grown hg e3,e3⟩
theorem CodesAt.setR {s:ByteArray} {w:World} {P R i j:Nat} {C:Array Value} {v:Value} (h:CodesAt s w P C i) (hR:R < P):CodesAt s (w.setCell ⟨R,j,none⟩ v) P C i:=by
 intro q hq hq5
 obtain⟨p,cap,e1,e2,e3⟩:=h q hq hq5
 exact⟨p,cap,e1,e2.grown (grown_set7 w R j v) (fun a ha=>by have:=e3 a ha;omega),e3⟩
def Sp.nms:List (List UInt8):=[[118,97,108,117,101],[111,108,100],[105,110],[103,111,116],[115,116,101,112],[105,100],[100,101,103],[97,108,108],[119,101,105,103,104,116],[43],[45],[42],[47],[37],[60],[61],[109,105,110],[109,97,120],[100,117,112],[100,114,111,112],[115,119,97,112],[111,118,101,114],[63],[91],[93]]
def wfn:List Nat:=[172,174,175,176,177,178,179,180,181,182,184,185,186,188,189,191,192,193,194,196,197,198,199,201,203]
def wordsV:Array Value := #[.string ⟨#[118,97,108,117,101]⟩,.bool false,.func (.func 172) #[] #[],
 .string ⟨#[111,108,100]⟩,.bool false,.func (.func 174) #[] #[],
 .string ⟨#[105,110]⟩,.bool false,.func (.func 175) #[] #[],
 .string ⟨#[103,111,116]⟩,.bool false,.func (.func 176) #[] #[],
 .string ⟨#[115,116,101,112]⟩,.bool false,.func (.func 177) #[] #[],
 .string ⟨#[105,100]⟩,.bool false,.func (.func 178) #[] #[],
 .string ⟨#[100,101,103]⟩,.bool false,.func (.func 179) #[] #[],
 .string ⟨#[97,108,108]⟩,.bool false,.func (.func 180) #[] #[],
 .string ⟨#[119,101,105,103,104,116]⟩,.bool true,.func (.func 181) #[] #[],
 .string ⟨#[43]⟩,.bool false,.func (.func 182) #[] #[],
 .string ⟨#[45]⟩,.bool false,.func (.func 184) #[] #[],
 .string ⟨#[42]⟩,.bool false,.func (.func 185) #[] #[],
 .string ⟨#[47]⟩,.bool false,.func (.func 186) #[] #[],
 .string ⟨#[37]⟩,.bool false,.func (.func 188) #[] #[],
 .string ⟨#[60]⟩,.bool false,.func (.func 189) #[] #[],
 .string ⟨#[61]⟩,.bool false,.func (.func 191) #[] #[],
 .string ⟨#[109,105,110]⟩,.bool false,.func (.func 192) #[] #[],
 .string ⟨#[109,97,120]⟩,.bool false,.func (.func 193) #[] #[],
 .string ⟨#[100,117,112]⟩,.bool false,.func (.func 194) #[] #[],
 .string ⟨#[100,114,111,112]⟩,.bool false,.func (.func 196) #[] #[],
 .string ⟨#[115,119,97,112]⟩,.bool false,.func (.func 197) #[] #[],
 .string ⟨#[111,118,101,114]⟩,.bool false,.func (.func 198) #[] #[],
 .string ⟨#[63]⟩,.bool false,.func (.func 199) #[] #[],
 .string ⟨#[91]⟩,.bool false,.func (.func 201) #[] #[],
 .string ⟨#[93]⟩,.bool false,.func (.func 203) #[] #[]]
def WordsAt (b:Nat) (w:World):Prop:=w.heap[b]? = some (.cells wordsV 322)
theorem words_any (w:World):Calls Tryz.prog 121 #[] w fun e w'=>e = .returned (.slice (some ⟨w.heap.size,0,none⟩) 25 25)∧Below w.heap.size w w'∧WordsAt w.heap.size w':=by
 go_enter Tryz.func121,Tryz.ntmps121
 go_wp2
 exact bodyPost_ret (v := .slice (some ⟨w.heap.size,0,none⟩) 25 25) (by simp[results,Tryz.results121,go_sem]) rfl ⟨rfl,(Below.refl _ _).alloc nlr _,Array.getElem?_push_size⟩
def wordNm (i:Nat):ByteArray:=⟨⟨Sp.nms[i]!⟩⟩
def wordWt (i:Nat):Bool:=i == 8
def wordFn (i:Nat):Value := .func (.func (wfn[i]!)) #[] #[]
theorem wv_nm:(i:Nat)→i < 25→wordsV[3 * i]? = some (.string (wordNm i))
 | 0,_=>rfl
 | 1,_=>rfl
 | 2,_=>rfl
 | 3,_=>rfl
 | 4,_=>rfl
 | 5,_=>rfl
 | 6,_=>rfl
 | 7,_=>rfl
 | 8,_=>rfl
 | 9,_=>rfl
 | 10,_=>rfl
 | 11,_=>rfl
 | 12,_=>rfl
 | 13,_=>rfl
 | 14,_=>rfl
 | 15,_=>rfl
 | 16,_=>rfl
 | 17,_=>rfl
 | 18,_=>rfl
 | 19,_=>rfl
 | 20,_=>rfl
 | 21,_=>rfl
 | 22,_=>rfl
 | 23,_=>rfl
 | 24,_=>rfl
 | n+25,h=>absurd h (by omega)
theorem wv_wt:(i:Nat)→i < 25→wordsV[3 * i+1]? = some (.bool (wordWt i))
 | 0,_=>rfl
 | 1,_=>rfl
 | 2,_=>rfl
 | 3,_=>rfl
 | 4,_=>rfl
 | 5,_=>rfl
 | 6,_=>rfl
 | 7,_=>rfl
 | 8,_=>rfl
 | 9,_=>rfl
 | 10,_=>rfl
 | 11,_=>rfl
 | 12,_=>rfl
 | 13,_=>rfl
 | 14,_=>rfl
 | 15,_=>rfl
 | 16,_=>rfl
 | 17,_=>rfl
 | 18,_=>rfl
 | 19,_=>rfl
 | 20,_=>rfl
 | 21,_=>rfl
 | 22,_=>rfl
 | 23,_=>rfl
 | 24,_=>rfl
 | n+25,h=>absurd h (by omega)
theorem wv_fn:(i:Nat)→i < 25→wordsV[3 * i+2]? = some (wordFn i)
 | 0,_=>rfl
 | 1,_=>rfl
 | 2,_=>rfl
 | 3,_=>rfl
 | 4,_=>rfl
 | 5,_=>rfl
 | 6,_=>rfl
 | 7,_=>rfl
 | 8,_=>rfl
 | 9,_=>rfl
 | 10,_=>rfl
 | 11,_=>rfl
 | 12,_=>rfl
 | 13,_=>rfl
 | 14,_=>rfl
 | 15,_=>rfl
 | 16,_=>rfl
 | 17,_=>rfl
 | 18,_=>rfl
 | 19,_=>rfl
 | 20,_=>rfl
 | 21,_=>rfl
 | 22,_=>rfl
 | 23,_=>rfl
 | 24,_=>rfl
 | n+25,h=>absurd h (by omega)
theorem words_cells {b:Nat} {w:World} (h:WordsAt b w) {i:Nat} (hi:i < 25) :
  w.cell? ⟨b,3 * i,none⟩=some (.string (wordNm i))∧w.cell? ⟨b,3 * i+1,none⟩=some (.bool (wordWt i))∧w.cell? ⟨b,3 * i+2,none⟩=some (wordFn i):=by
 unfold WordsAt at h
 refine⟨?_,?_,?_⟩ <;> simp only[World.cell?,h]
 ·exact wv_nm i hi
 ·exact wv_wt i hi
 ·exact wv_fn i hi
theorem WordsAt.below {b:Nat} {w w':World} (h:WordsAt b w) (hb:Below w.heap.size w w'):WordsAt b w':=(hb.block _ (lt_of_block h)).trans h
theorem blk3 {w:World} {G t:Nat} {c0 c1 c2:Value} (h:w.heap[G]? = some (.cells #[c0,c1,c2] t)) :
  w.cell? ⟨G,0,none⟩=some c0∧w.cell? ⟨G,1,none⟩=some c1∧w.cell? ⟨G,2,none⟩=some c2∧∀ j,w.frozen? ⟨G,j,none⟩=false :=
 ⟨by simp[World.cell?,h],by simp[World.cell?,h],by simp[World.cell?,h],fun j=>by simp[World.frozen?,h]⟩
def NumAt (w:World) (B:Nat) (n:Int):Prop:=w.heap[B]? = some (.cells #[.int .i64 n] 2)
theorem NumAt.cell {w:World} {B:Nat} {n:Int} (h:NumAt w B n):w.cell? ⟨B,0,none⟩=some (.int .i64 n):=by
 unfold NumAt at h;simp[World.cell?,h]
def numWord (B:Nat):Value := .agg #[.string ⟨#[]⟩,.bool false,.func (.func 300) #[] #[.pointer (some ⟨B,0,none⟩)]]
theorem findWord_num (s:ByteArray) (k:Value) (w:World) (hs:s.size≤4000) (n:Int) (hn:Hid (Sp.number s.data.toList=some n)):Calls Tryz.prog 253 #[.string s,k] w fun e w'=>∃ B,w.heap.size≤B∧NumAt w' B n∧e = .returned (.tuple #[numWord B,.bool true])∧Below w.heap.size w w':=by
 go_enter Tryz.func253,Tryz.ntmps253
 go_wp2_with fail
 refine(numRead_any s _ hs).mono ?_
 rintro e w1 ⟨rfl,hb1⟩
 rw[uh hn]
 unfold numOut
 have hz:=hb1.size
 simp at hz
 have h0:w1.heap[w.heap.size]? = some (.cells #[.string ⟨#[]⟩,.bool false,.nilFunc] 322):=(hb1.block w.heap.size (by simp)).trans Array.getElem?_push_size
 have hb2:Below w.heap.size w (w1.alloc (.cells #[.int .i64 n] 2)):=(((Below.refl w.heap.size w).alloc nlr _).trans (hb1.mono (by simp))).alloc (by omega) _
 have h1:(w1.alloc (.cells #[.int .i64 n] 2)).heap[w.heap.size]? = _:=(((Below.refl w1.heap.size w1).alloc nlr (.cells #[.int .i64 n] 2)).block _ hz).trans h0
 obtain⟨c0,c1,c2,cf⟩:=blk3 h1
 have f0:=cf 0
 have f1:=cf 1
 have f2:=cf 2
 have cn:NumAt (w1.alloc (.cells #[.int .i64 n] 2)) w1.heap.size n:=heap_alloc_new w1 _
 clear h0 h1 cf
 have hlt:w.heap.size≠w1.heap.size:=by omega
 have hc:∀ (W:World) (j:Nat) (v:Value),NumAt W w1.heap.size n→NumAt (W.setCell ⟨w.heap.size,j,none⟩ v) w1.heap.size n:=fun W j v h =>
  (Below.heap_setCell _ _ _ _ (fun e=>hlt e.symm)).trans h
 have CN:=hde cn
 clear cn
 go_wp2
 refine bodyPost_ret (v := .tuple #[numWord w1.heap.size,.bool true]) ?_ rfl ⟨w1.heap.size,by omega,hc _ _ _ (hc _ _ _ (hc _ _ _ (uh CN))),rfl,((hb2.setCell nlr _).setCell nlr _).setCell nlr _⟩
 simp[results,Tryz.results253,go_sem,numWord,c0,c1,c2]
def wordV (k:Nat):Value := .agg #[.string (wordNm k),.bool (wordWt k),wordFn k]
def noWord:Value := .agg #[.string ⟨#[]⟩,.bool false,.nilFunc]
def FindW (x:List UInt8) (w:World) (e:Ending) (w':World):Prop :=
 Below w.heap.size w w'∧((∃ k,k < 25∧Sp.nms[k]! = x∧e = .returned (.tuple #[wordV k,.bool true]))∨((∀ k,k < 25→Sp.nms[k]!≠x)∧e = .returned (.tuple #[noWord,.bool false])))
theorem findWord_else (s:ByteArray) (b:Nat) (w:World) (hs:s.size≤4000) (hW:WordsAt b w) (hn:Hid (Sp.number s.data.toList=none)):Calls Tryz.prog 253 #[.string s,.slice (some ⟨b,0,none⟩) 25 25] w (FindW s.data.toList w):=by
 go_enter Tryz.func253,Tryz.ntmps253
 go_wp2_with fail
 refine(numRead_any s _ hs).mono ?_
 rintro e w1 ⟨rfl,hb1⟩
 rw[uh hn]
 unfold numOut
 have hz:=hb1.size
 simp at hz
 have h0:w1.heap[w.heap.size]? = some (.cells #[.string ⟨#[]⟩,.bool false,.nilFunc] 322):=(hb1.block w.heap.size (by simp)).trans Array.getElem?_push_size
 have hb2:Below w.heap.size w (w1.alloc (.cells #[.int .i64 0] 2)):=(((Below.refl w.heap.size w).alloc nlr _).trans (hb1.mono (by simp))).alloc (by omega) _
 have h1:(w1.alloc (.cells #[.int .i64 0] 2)).heap[w.heap.size]? = _:=(((Below.refl w1.heap.size w1).alloc nlr (.cells #[.int .i64 0] 2)).block _ hz).trans h0
 have hz1:w.heap.size < (w1.alloc (.cells #[.int .i64 0] 2)).heap.size:=by simp;omega
 go_wp2_with fail
 generalize (w1.alloc (.cells #[.int .i64 0] 2))=W1 at *
 clear hb1 h0
 go_loopw [20] (fun i wr=>∃ k:Nat,k≤25∧i = .int .i64 k∧Below W1.heap.size W1 wr∧Hid (∀ j,j < k→Sp.nms[j]!≠s.data.toList)) (fun i _=>25 - (intOf i).toNat)
 case atStart=>exact⟨0,by omega,rfl,Below.refl _ _,fun j hj=>absurd hj (by omega)⟩
 case round =>
  obtain⟨k,hk,rfl,hb,HK⟩:=hrel
  have hbw:=hb2.trans (hb.mono (by omega))
  have h2:=(hb.block _ hz1).trans h1
  by_cases hlt:k < 25
  ·obtain⟨x0,x1,x2⟩:=words_cells (hW.below hbw) hlt
   rw[Nat.mul_comm 3 k] at x0 x1 x2
   have hk0:(0:Int)≤(k:Int):=Int.natCast_nonneg _
   have hk1:(k:Int) < (25:Int):=by omega
   obtain⟨nm,HN⟩:∃ nm,Hid (nm=wordNm k):=⟨_,rfl⟩
   obtain⟨wt,HT⟩:∃ wt,Hid (wt=wordWt k):=⟨_,rfl⟩
   obtain⟨fk,HF⟩:∃ fk,Hid (Value.func (.func fk) #[] #[]=wordFn k):=⟨_,rfl⟩
   rw[← uh HN] at x0
   rw[← uh HT] at x1
   rw[← uh HF] at x2
   have hzr:w.heap.size < wr.heap.size:=Nat.lt_of_lt_of_le hz1 hb.size
   have h3:(wr.alloc (.cells #[.string nm,.bool wt,.func (.func fk) #[] #[]] 322)).heap[w.heap.size]? = _:=(((Below.refl wr.heap.size wr).alloc nlr (.cells #[.string nm,.bool wt,.func (.func fk) #[] #[]] 322)).block _ hzr).trans h2
   have hb3:=hbw.alloc (Nat.le_of_lt hzr) (.cells #[.string nm,.bool wt,.func (.func fk) #[] #[]] 322)
   obtain⟨c0,c1,c2,cf⟩:=blk3 h3
   have f0:=cf 0
   have f1:=cf 1
   have f2:=cf 2
   clear cf h2 h1 h3
   by_cases hq:Sp.nms[k]! = s.data.toList
   ·have HQ:=hde hq
    have g:(nm.toList == s.toList)=true:=by
     rw[uh HN,toL s];exact toList_is hq
    clear hq
    clear hzr
    go_wp2
    refine bodyPost_ret (v := .tuple #[wordV k,.bool true]) ?_ rfl ⟨((hb3.setCell nlr _).setCell nlr _).setCell nlr _,Or.inl ⟨k,hlt,uh HQ,rfl⟩⟩
    simp[results,Tryz.results253,go_sem,wordV,c0,c1,c2,← uh HN,← uh HT,← uh HF]
   ·have HQ:=hde hq
    have g:(nm.toList == s.toList)=false:=by
     rw[uh HN,toL s];exact toList_ne hq
    clear hq
    go_wp2
    go_roundw
    case rel=>exact⟨k+1,by omega,by go_num,hb.alloc hb.size _,fun j hj=>if h:j=k then h ▸ uh HQ else uh HK j (by omega)⟩
    case measure=>simp[intOf];omega
  ·obtain rfl:k=25:=by omega
   obtain⟨c0,c1,c2,cf⟩:=blk3 h2
   have f0:=cf 0
   have f1:=cf 1
   have f2:=cf 2
   clear cf h2 h1
   go_wp2
   refine bodyPost_ret (v := .tuple #[noWord,.bool false]) ?_ rfl ⟨((hbw.setCell nlr _).setCell nlr _).setCell nlr _,Or.inr ⟨uh HK,rfl⟩⟩
   simp[results,Tryz.results253,go_sem,noWord,c0,c1,c2]
structure Dry (w:World) (M:Nat) (code:Value) (at' fuel h:Nat) (loops:Value):Prop where
 c0:w.cell? ⟨M,0,none⟩=some code
 c1:w.cell? ⟨M,1,none⟩=some (.int .i64 at')
 c2:w.cell? ⟨M,2,none⟩=some (.int .i64 fuel)
 sg:∀ j,j < 9→∃ n:Int,w.cell? ⟨M,3+j,none⟩=some (.int .i64 n)
 st:∀ j,j < 16→∃ n:Int,w.cell? ⟨M,12+j,none⟩=some (.int .i64 n)
 hh:w.cell? ⟨M,28,none⟩=some (.int .i64 h)
 ll:w.cell? ⟨M,29,none⟩=some loops
 dr:w.cell? ⟨M,30,none⟩=some (.bool true)
 fz:∀ j,w.frozen? ⟨M,j,none⟩=false
structure Only (M:Nat) (w w':World):Prop where
 size:w'.heap.size=w.heap.size
 block:∀ b,b≠M→w'.heap[b]? = w.heap[b]?
 os:w'.os=w.os
 tape:w'.tape=w.tape
 output:w'.output=w.output
theorem Only.refl (M:Nat) (w:World):Only M w w:=⟨rfl,fun _ _=>rfl,rfl,rfl,rfl⟩
theorem Only.trans {M:Nat} {w w' w'':World} (h:Only M w w') (h':Only M w' w''):Only M w w'':=⟨h'.1.trans h.1,fun b hb=>(h'.2 b hb).trans (h.2 b hb),h'.os.trans h.os,h'.tape.trans h.tape,h'.output.trans h.output⟩
theorem Only.drew {M:Nat} {w w':World} (h:Only M w w'):Only M w w'.drew:=⟨h.1,h.2,h.os,h.tape,h.output⟩
theorem Only.below {M:Nat} {w w':World} (h:Only M w w'):Below M w w':=⟨h.os,h.tape,h.output,Nat.le_of_eq h.size.symm,fun b hb=>h.block b (by omega)⟩
theorem Only.set {M:Nat} {w w':World} (h:Only M w w') (j:Nat) (v:Value):Only M w (w'.setCell ⟨M,j,none⟩ v):=by
 refine⟨by rw[← h.1];simp,fun b hb=>?_,h.os,h.tape,h.output⟩
 rw[← h.2 b hb]
 exact Below.heap_setCell _ _ _ _ hb
theorem cso {W:World} {M i j:Nat} {v:Value} (h:i≠j):(W.setCell ⟨M,i,none⟩ v).cell? ⟨M,j,none⟩=W.cell? ⟨M,j,none⟩:=
 World.cell?_setCell_other W ⟨M,i,none⟩ ⟨M,j,none⟩ v (by intro e;injection e with _ e1;exact h e1)
theorem Dry.drew {w:World} {M at' fuel h:Nat} {code loops:Value} (hd:Dry w M code at' fuel h loops):Dry w.drew M code at' fuel h loops:=⟨hd.c0,hd.c1,hd.c2,hd.sg,hd.st,hd.hh,hd.ll,hd.dr,hd.fz⟩
theorem Dry.val {w:World} {M at' fuel h:Nat} {code loops:Value} (hd:Dry w M code at' fuel h loops) (i:Nat) (hi:i < 16) (v:Int):Dry (w.setCell ⟨M,12+i,none⟩ (.int .i64 v)) M code at' fuel h loops:=by
 obtain⟨c0,c1,c2,sg,st,hh,ll,dr,fz⟩:=hd
 refine⟨?_,?_,?_,fun j hj=>?_,fun j hj=>?_,?_,?_,?_,fun j=>?_⟩
 ·rw[cso (by omega)];exact c0
 ·rw[cso (by omega)];exact c1
 ·rw[cso (by omega)];exact c2
 ·rw[cso (by omega)];exact sg j hj
 ·by_cases e:i=j
  ·subst e
   obtain⟨n,hn⟩:=st i hi
   exact⟨v,World.cell?_setCell_same _ _ _ hn⟩
  ·rw[cso (by omega)];exact st j hj
 ·rw[cso (by omega)];exact hh
 ·rw[cso (by omega)];exact ll
 ·rw[cso (by omega)];exact dr
 ·rw[World.frozen?_setCell];exact fz j
theorem Dry.hgt {w:World} {M at' fuel h:Nat} {code loops:Value} (hd:Dry w M code at' fuel h loops) (h':Nat):Dry (w.setCell ⟨M,28,none⟩ (.int .i64 h')) M code at' fuel h' loops:=by
 obtain⟨c0,c1,c2,sg,st,hh,ll,dr,fz⟩:=hd
 refine⟨?_,?_,?_,fun j hj=>?_,fun j hj=>?_,?_,?_,?_,fun j=>?_⟩
 ·rw[cso (by omega)];exact c0
 ·rw[cso (by omega)];exact c1
 ·rw[cso (by omega)];exact c2
 ·rw[cso (by omega)];exact sg j hj
 ·rw[cso (by omega)];exact st j hj
 ·exact World.cell?_setCell_same _ _ _ hh
 ·rw[cso (by omega)];exact ll
 ·rw[cso (by omega)];exact dr
 ·rw[World.frozen?_setCell];exact fz j
theorem put_ok (v:Int) (M at' fuel h:Nat) (code loops:Value) (w:World) (hd:Dry w M code at' fuel h loops) (hh:h < 16):Calls Tryz.prog 173 #[.pointer (some ⟨M,0,none⟩),.int .i64 v] w fun e w'=>e = .returned (.tuple #[])∧Dry w' M code at' fuel (h+1) loops∧Only M w w':=by
 have e1:=hd.hh
 obtain⟨x,e2⟩:=hd.st h hh
 have e3:=hd.fz (12+h)
 have e4:=hd.fz 28
 have g1:(((h:Nat):Int) == 16)=false:=beq_eq_false_iff_ne.2 (by omega)
 have g2:(0:Int)≤(h:Int):=Int.natCast_nonneg _
 have g3:(h:Int) < (16:Int):=by omega
 go_enter Tryz.func173,Tryz.ntmps173
 go_wp2
 go_region
 go_wp2
 exact bodyPost_end (results_none rfl _ _ _) rfl ⟨rfl,((hd.val h hh v).hgt (h+1)).drew,(((Only.refl M w).set _ _).set _ _).drew⟩
theorem put_full (v:Int) (M at' fuel h:Nat) (code loops:Value) (w:World) (hd:Dry w M code at' fuel h loops) (hh:h=16) (u:TypeId) (p:Value) (he:w.cell? ⟨5,0,none⟩=some (.iface u p)):Calls Tryz.prog 173 #[.pointer (some ⟨M,0,none⟩),.int .i64 v] w fun e w'=>e = .panicked [{ v := .iface u p,recovered:=false }]∧w'=w:=by
 have e1:=hd.hh
 subst hh
 go_enter Tryz.func173,Tryz.ntmps173
 go_wp2
 exact⟨rfl,rfl,rfl⟩
theorem take_ok (M at' fuel h:Nat) (code loops:Value) (w:World) (hd:Dry w M code at' fuel (h+1) loops) (hh:h < 16):Calls Tryz.prog 195 #[.pointer (some ⟨M,0,none⟩)] w fun e w'=>e = .returned (.int .i64 1)∧Dry w' M code at' fuel h loops∧Only M w w':=by
 have e1:=hd.hh
 have e4:=hd.fz 28
 have e5:=hd.dr
 have g1:((((h+1:Nat)):Int) == 0)=false:=beq_eq_false_iff_ne.2 (by omega)
 have g2:((h+1:Nat):Int) - 1=(h:Int):=by omega
 go_enter Tryz.func195,Tryz.ntmps195
 go_wp2
 exact bodyPost_ret (v := .int .i64 1) (by simp[results,Tryz.results195,go_sem]) rfl ⟨rfl,hd.hgt h,(Only.refl M w).set _ _⟩
theorem take_none (M at' fuel:Nat) (code loops:Value) (w:World) (hd:Dry w M code at' fuel 0 loops) (u:TypeId) (p:Value) (he:w.cell? ⟨5,0,none⟩=some (.iface u p)):Calls Tryz.prog 195 #[.pointer (some ⟨M,0,none⟩)] w fun e w'=>e = .panicked [{ v := .iface u p,recovered:=false }]∧w'=w:=by
 have e1:=hd.hh
 go_enter Tryz.func195,Tryz.ntmps195
 go_wp2
 exact⟨rfl,rfl,rfl⟩
theorem Only.cell {M:Nat} {w w':World} (h:Only M w w') {b j:Nat} (hb:b≠M):w'.cell? ⟨b,j,none⟩=w.cell? ⟨b,j,none⟩:=by
 simp only[World.cell?,h.2 b hb]
theorem takeTwo_ok (M at' fuel h:Nat) (code loops:Value) (w:World) (hd:Dry w M code at' fuel (h+2) loops) (hh:h+1 < 16):Calls Tryz.prog 183 #[.pointer (some ⟨M,0,none⟩)] w fun e w'=>e = .returned (.tuple #[.int .i64 1,.int .i64 1])∧Dry w' M code at' fuel h loops∧Only M w w':=by
 go_enter Tryz.func183,Tryz.ntmps183
 go_wp2_with fail
 refine(take_ok M at' fuel (h+1) code loops w hd hh).mono ?_
 rintro e w1 ⟨rfl,hd1,ho1⟩
 go_wp2_with fail
 refine(take_ok M at' fuel h code loops w1 hd1 (by omega)).mono ?_
 rintro e w2 ⟨rfl,hd2,ho2⟩
 go_wp2
 exact bodyPost_ret (v := .tuple #[.int .i64 1,.int .i64 1]) (by simp[results,Tryz.results183,go_sem]) rfl ⟨rfl,hd2,ho1.trans ho2⟩
theorem takeTwo_less (M at' fuel h:Nat) (code loops:Value) (w:World) (hd:Dry w M code at' fuel h loops) (hh:h < 2) (u:TypeId) (p:Value) (hM:5≠M) (he:w.cell? ⟨5,0,none⟩=some (.iface u p)):Calls Tryz.prog 183 #[.pointer (some ⟨M,0,none⟩)] w fun e w'=>e = .panicked [{ v := .iface u p,recovered:=false }]∧Only M w w':=by
 match h,hh with
 | 0,_ =>
  go_enter Tryz.func183,Tryz.ntmps183
  go_wp2_with fail
  refine(take_none M at' fuel code loops w hd u p he).mono ?_
  rintro e w1 ⟨rfl,rfl⟩
  go_wp2
  exact⟨rfl,rfl,Only.refl _ _⟩
 | 1,_ =>
  go_enter Tryz.func183,Tryz.ntmps183
  go_wp2_with fail
  refine(take_ok M at' fuel 0 code loops w hd (by omega)).mono ?_
  rintro e w1 ⟨rfl,hd1,ho1⟩
  go_wp2_with fail
  refine(take_none M at' fuel code loops w1 hd1 u p ((ho1.cell hM).trans he)).mono ?_
  rintro e w2 ⟨rfl,rfl⟩
  go_wp2
  exact⟨rfl,rfl,ho1⟩
def DoPost (n m:Nat) (M at' fuel h:Nat) (code loops:Value) (u:TypeId) (p:Value) (w:World) (e:Ending) (w':World):Prop :=
 Only M w w'∧((n≤h∧h - n+m≤16∧e = .returned (.tuple #[])∧Dry w' M code at' fuel (h - n+m) loops)∨(¬ (n≤h∧h - n+m≤16)∧e = .panicked [{ v := .iface u p,recovered:=false }]))
structure DryEnv (M h:Nat) (u:TypeId) (p:Value) (w:World):Prop where
 hM:5≠M
 he:w.cell? ⟨5,0,none⟩=some (.iface u p)
 hh:h≤16
def Does (F:Nat) (n m:Nat):Prop := ∀ (M at' fuel h:Nat) (code loops:Value) (u:TypeId) (p:Value) (w:World),Dry w M code at' fuel h loops→DryEnv M h u p w→Calls Tryz.prog F #[.pointer (some ⟨M,0,none⟩)] w (DoPost n m M at' fuel h code loops u p w)
theorem do_1:Does 172 0 1:=by
 intro M at' fuel h code loops u p w hd hv
 obtain⟨n,hn⟩:=hd.sg 0 (by omega)
 by_cases hh:h < 16
 ·go_enter Tryz.func172,Tryz.ntmps172
  go_wp2_with fail
  refine(put_ok n M at' fuel h code loops w hd hh).mono ?_
  rintro e w1 ⟨rfl,hd1,ho1⟩
  go_wp2
  exact bodyPost_end (results_none rfl _ _ _) rfl ⟨ho1,Or.inl ⟨Nat.zero_le _,by omega,rfl,hd1⟩⟩
 ·go_enter Tryz.func172,Tryz.ntmps172
  go_wp2_with fail
  refine(put_full n M at' fuel h code loops w hd (by have:=hv.hh;omega) u p hv.he).mono ?_
  rintro e w1 ⟨rfl,rfl⟩
  go_wp2
  exact⟨rfl,Only.refl _ _,Or.inr ⟨by omega,rfl⟩⟩
theorem do_2:Does 174 0 1:=by
 intro M at' fuel h code loops u p w hd hv
 obtain⟨n,hn⟩:=hd.sg 7 (by omega)
 by_cases hh:h < 16
 ·go_enter Tryz.func174,Tryz.ntmps174
  go_wp2_with fail
  refine(put_ok n M at' fuel h code loops w hd hh).mono ?_
  rintro e w1 ⟨rfl,hd1,ho1⟩
  go_wp2
  exact bodyPost_end (results_none rfl _ _ _) rfl ⟨ho1,Or.inl ⟨Nat.zero_le _,by omega,rfl,hd1⟩⟩
 ·go_enter Tryz.func174,Tryz.ntmps174
  go_wp2_with fail
  refine(put_full n M at' fuel h code loops w hd (by have:=hv.hh;omega) u p hv.he).mono ?_
  rintro e w1 ⟨rfl,rfl⟩
  go_wp2
  exact⟨rfl,Only.refl _ _,Or.inr ⟨by omega,rfl⟩⟩
theorem do_3:Does 175 0 1:=by
 intro M at' fuel h code loops u p w hd hv
 obtain⟨n,hn⟩:=hd.sg 1 (by omega)
 by_cases hh:h < 16
 ·go_enter Tryz.func175,Tryz.ntmps175
  go_wp2_with fail
  refine(put_ok n M at' fuel h code loops w hd hh).mono ?_
  rintro e w1 ⟨rfl,hd1,ho1⟩
  go_wp2
  exact bodyPost_end (results_none rfl _ _ _) rfl ⟨ho1,Or.inl ⟨Nat.zero_le _,by omega,rfl,hd1⟩⟩
 ·go_enter Tryz.func175,Tryz.ntmps175
  go_wp2_with fail
  refine(put_full n M at' fuel h code loops w hd (by have:=hv.hh;omega) u p hv.he).mono ?_
  rintro e w1 ⟨rfl,rfl⟩
  go_wp2
  exact⟨rfl,Only.refl _ _,Or.inr ⟨by omega,rfl⟩⟩
theorem do_4:Does 176 0 1:=by
 intro M at' fuel h code loops u p w hd hv
 obtain⟨n,hn⟩:=hd.sg 2 (by omega)
 by_cases hh:h < 16
 ·go_enter Tryz.func176,Tryz.ntmps176
  go_wp2_with fail
  refine(put_ok n M at' fuel h code loops w hd hh).mono ?_
  rintro e w1 ⟨rfl,hd1,ho1⟩
  go_wp2
  exact bodyPost_end (results_none rfl _ _ _) rfl ⟨ho1,Or.inl ⟨Nat.zero_le _,by omega,rfl,hd1⟩⟩
 ·go_enter Tryz.func176,Tryz.ntmps176
  go_wp2_with fail
  refine(put_full n M at' fuel h code loops w hd (by have:=hv.hh;omega) u p hv.he).mono ?_
  rintro e w1 ⟨rfl,rfl⟩
  go_wp2
  exact⟨rfl,Only.refl _ _,Or.inr ⟨by omega,rfl⟩⟩
theorem do_5:Does 177 0 1:=by
 intro M at' fuel h code loops u p w hd hv
 obtain⟨n,hn⟩:=hd.sg 3 (by omega)
 by_cases hh:h < 16
 ·go_enter Tryz.func177,Tryz.ntmps177
  go_wp2_with fail
  refine(put_ok n M at' fuel h code loops w hd hh).mono ?_
  rintro e w1 ⟨rfl,hd1,ho1⟩
  go_wp2
  exact bodyPost_end (results_none rfl _ _ _) rfl ⟨ho1,Or.inl ⟨Nat.zero_le _,by omega,rfl,hd1⟩⟩
 ·go_enter Tryz.func177,Tryz.ntmps177
  go_wp2_with fail
  refine(put_full n M at' fuel h code loops w hd (by have:=hv.hh;omega) u p hv.he).mono ?_
  rintro e w1 ⟨rfl,rfl⟩
  go_wp2
  exact⟨rfl,Only.refl _ _,Or.inr ⟨by omega,rfl⟩⟩
theorem do_6:Does 178 0 1:=by
 intro M at' fuel h code loops u p w hd hv
 obtain⟨n,hn⟩:=hd.sg 4 (by omega)
 by_cases hh:h < 16
 ·go_enter Tryz.func178,Tryz.ntmps178
  go_wp2_with fail
  refine(put_ok n M at' fuel h code loops w hd hh).mono ?_
  rintro e w1 ⟨rfl,hd1,ho1⟩
  go_wp2
  exact bodyPost_end (results_none rfl _ _ _) rfl ⟨ho1,Or.inl ⟨Nat.zero_le _,by omega,rfl,hd1⟩⟩
 ·go_enter Tryz.func178,Tryz.ntmps178
  go_wp2_with fail
  refine(put_full n M at' fuel h code loops w hd (by have:=hv.hh;omega) u p hv.he).mono ?_
  rintro e w1 ⟨rfl,rfl⟩
  go_wp2
  exact⟨rfl,Only.refl _ _,Or.inr ⟨by omega,rfl⟩⟩
theorem do_7:Does 179 0 1:=by
 intro M at' fuel h code loops u p w hd hv
 obtain⟨n,hn⟩:=hd.sg 5 (by omega)
 by_cases hh:h < 16
 ·go_enter Tryz.func179,Tryz.ntmps179
  go_wp2_with fail
  refine(put_ok n M at' fuel h code loops w hd hh).mono ?_
  rintro e w1 ⟨rfl,hd1,ho1⟩
  go_wp2
  exact bodyPost_end (results_none rfl _ _ _) rfl ⟨ho1,Or.inl ⟨Nat.zero_le _,by omega,rfl,hd1⟩⟩
 ·go_enter Tryz.func179,Tryz.ntmps179
  go_wp2_with fail
  refine(put_full n M at' fuel h code loops w hd (by have:=hv.hh;omega) u p hv.he).mono ?_
  rintro e w1 ⟨rfl,rfl⟩
  go_wp2
  exact⟨rfl,Only.refl _ _,Or.inr ⟨by omega,rfl⟩⟩
theorem do_8:Does 180 0 1:=by
 intro M at' fuel h code loops u p w hd hv
 obtain⟨n,hn⟩:=hd.sg 6 (by omega)
 by_cases hh:h < 16
 ·go_enter Tryz.func180,Tryz.ntmps180
  go_wp2_with fail
  refine(put_ok n M at' fuel h code loops w hd hh).mono ?_
  rintro e w1 ⟨rfl,hd1,ho1⟩
  go_wp2
  exact bodyPost_end (results_none rfl _ _ _) rfl ⟨ho1,Or.inl ⟨Nat.zero_le _,by omega,rfl,hd1⟩⟩
 ·go_enter Tryz.func180,Tryz.ntmps180
  go_wp2_with fail
  refine(put_full n M at' fuel h code loops w hd (by have:=hv.hh;omega) u p hv.he).mono ?_
  rintro e w1 ⟨rfl,rfl⟩
  go_wp2
  exact⟨rfl,Only.refl _ _,Or.inr ⟨by omega,rfl⟩⟩
theorem do_9:Does 181 0 1:=by
 intro M at' fuel h code loops u p w hd hv
 obtain⟨n,hn⟩:=hd.sg 8 (by omega)
 by_cases hh:h < 16
 ·go_enter Tryz.func181,Tryz.ntmps181
  go_wp2_with fail
  refine(put_ok n M at' fuel h code loops w hd hh).mono ?_
  rintro e w1 ⟨rfl,hd1,ho1⟩
  go_wp2
  exact bodyPost_end (results_none rfl _ _ _) rfl ⟨ho1,Or.inl ⟨Nat.zero_le _,by omega,rfl,hd1⟩⟩
 ·go_enter Tryz.func181,Tryz.ntmps181
  go_wp2_with fail
  refine(put_full n M at' fuel h code loops w hd (by have:=hv.hh;omega) u p hv.he).mono ?_
  rintro e w1 ⟨rfl,rfl⟩
  go_wp2
  exact⟨rfl,Only.refl _ _,Or.inr ⟨by omega,rfl⟩⟩
theorem do_10:Does 182 2 1:=by
 intro M at' fuel h code loops u p w hd hv
 by_cases hh:h < 2
 ·go_enter Tryz.func182,Tryz.ntmps182
  go_wp2_with fail
  refine(takeTwo_less M at' fuel h code loops w hd hh u p hv.hM hv.he).mono ?_
  rintro e w1 ⟨rfl,ho1⟩
  go_wp2
  exact⟨rfl,ho1,Or.inr ⟨by omega,rfl⟩⟩
 ·obtain⟨h,rfl⟩:∃ g,h=g+2:=⟨h - 2,by omega⟩
  have hle:=hv.hh
  go_enter Tryz.func182,Tryz.ntmps182
  go_wp2_with fail
  refine(takeTwo_ok M at' fuel h code loops w hd (by omega)).mono ?_
  rintro e w1 ⟨rfl,hd1,ho1⟩
  go_wp2_with fail
  refine(put_ok _ M at' fuel h code loops w1 hd1 (by omega)).mono ?_
  rintro e w2 ⟨rfl,hd2,ho2⟩
  go_wp2
  exact bodyPost_end (results_none rfl _ _ _) rfl ⟨ho1.trans ho2,Or.inl ⟨by omega,by omega,rfl,hd2⟩⟩
theorem do_11:Does 184 2 1:=by
 intro M at' fuel h code loops u p w hd hv
 by_cases hh:h < 2
 ·go_enter Tryz.func184,Tryz.ntmps184
  go_wp2_with fail
  refine(takeTwo_less M at' fuel h code loops w hd hh u p hv.hM hv.he).mono ?_
  rintro e w1 ⟨rfl,ho1⟩
  go_wp2
  exact⟨rfl,ho1,Or.inr ⟨by omega,rfl⟩⟩
 ·obtain⟨h,rfl⟩:∃ g,h=g+2:=⟨h - 2,by omega⟩
  have hle:=hv.hh
  go_enter Tryz.func184,Tryz.ntmps184
  go_wp2_with fail
  refine(takeTwo_ok M at' fuel h code loops w hd (by omega)).mono ?_
  rintro e w1 ⟨rfl,hd1,ho1⟩
  go_wp2_with fail
  refine(put_ok _ M at' fuel h code loops w1 hd1 (by omega)).mono ?_
  rintro e w2 ⟨rfl,hd2,ho2⟩
  go_wp2
  exact bodyPost_end (results_none rfl _ _ _) rfl ⟨ho1.trans ho2,Or.inl ⟨by omega,by omega,rfl,hd2⟩⟩
theorem do_12:Does 185 2 1:=by
 intro M at' fuel h code loops u p w hd hv
 by_cases hh:h < 2
 ·go_enter Tryz.func185,Tryz.ntmps185
  go_wp2_with fail
  refine(takeTwo_less M at' fuel h code loops w hd hh u p hv.hM hv.he).mono ?_
  rintro e w1 ⟨rfl,ho1⟩
  go_wp2
  exact⟨rfl,ho1,Or.inr ⟨by omega,rfl⟩⟩
 ·obtain⟨h,rfl⟩:∃ g,h=g+2:=⟨h - 2,by omega⟩
  have hle:=hv.hh
  go_enter Tryz.func185,Tryz.ntmps185
  go_wp2_with fail
  refine(takeTwo_ok M at' fuel h code loops w hd (by omega)).mono ?_
  rintro e w1 ⟨rfl,hd1,ho1⟩
  go_wp2_with fail
  refine(put_ok _ M at' fuel h code loops w1 hd1 (by omega)).mono ?_
  rintro e w2 ⟨rfl,hd2,ho2⟩
  go_wp2
  exact bodyPost_end (results_none rfl _ _ _) rfl ⟨ho1.trans ho2,Or.inl ⟨by omega,by omega,rfl,hd2⟩⟩
theorem do_17:Does 192 2 1:=by
 intro M at' fuel h code loops u p w hd hv
 by_cases hh:h < 2
 ·go_enter Tryz.func192,Tryz.ntmps192
  go_wp2_with fail
  refine(takeTwo_less M at' fuel h code loops w hd hh u p hv.hM hv.he).mono ?_
  rintro e w1 ⟨rfl,ho1⟩
  go_wp2
  exact⟨rfl,ho1,Or.inr ⟨by omega,rfl⟩⟩
 ·obtain⟨h,rfl⟩:∃ g,h=g+2:=⟨h - 2,by omega⟩
  have hle:=hv.hh
  go_enter Tryz.func192,Tryz.ntmps192
  go_wp2_with fail
  refine(takeTwo_ok M at' fuel h code loops w hd (by omega)).mono ?_
  rintro e w1 ⟨rfl,hd1,ho1⟩
  go_wp2_with fail
  refine(put_ok _ M at' fuel h code loops w1 hd1 (by omega)).mono ?_
  rintro e w2 ⟨rfl,hd2,ho2⟩
  go_wp2
  exact bodyPost_end (results_none rfl _ _ _) rfl ⟨ho1.trans ho2,Or.inl ⟨by omega,by omega,rfl,hd2⟩⟩
theorem do_18:Does 193 2 1:=by
 intro M at' fuel h code loops u p w hd hv
 by_cases hh:h < 2
 ·go_enter Tryz.func193,Tryz.ntmps193
  go_wp2_with fail
  refine(takeTwo_less M at' fuel h code loops w hd hh u p hv.hM hv.he).mono ?_
  rintro e w1 ⟨rfl,ho1⟩
  go_wp2
  exact⟨rfl,ho1,Or.inr ⟨by omega,rfl⟩⟩
 ·obtain⟨h,rfl⟩:∃ g,h=g+2:=⟨h - 2,by omega⟩
  have hle:=hv.hh
  go_enter Tryz.func193,Tryz.ntmps193
  go_wp2_with fail
  refine(takeTwo_ok M at' fuel h code loops w hd (by omega)).mono ?_
  rintro e w1 ⟨rfl,hd1,ho1⟩
  go_wp2_with fail
  refine(put_ok _ M at' fuel h code loops w1 hd1 (by omega)).mono ?_
  rintro e w2 ⟨rfl,hd2,ho2⟩
  go_wp2
  exact bodyPost_end (results_none rfl _ _ _) rfl ⟨ho1.trans ho2,Or.inl ⟨by omega,by omega,rfl,hd2⟩⟩
end Go.Proofs.YteflnddphpjahaaGreatDoor
