import Derived.Test.YteflnddphpjahaaGreatDoorCmCardBtoRnD
import Derived.Deep.RegionLaw
import Derived.Test.YteflnddphpjahaaGreatDoorCmCqLtoAppK
set_option linter.unusedVariables false
set_option linter.unusedSimpArgs false
set_option maxRecDepth 100000
set_option maxHeartbeats 16000000
namespace Go.Proofs.YteflnddphpjahaaGreatDoor
open Go.RowKit
theorem mdo_13:MDoes 186 [47] 2 1:=by
 intro M at' fuel E T code loops u p w hd hv hn hm
 obtain⟨b,a,r,rfl⟩:=two_of hn
 simp only[List.length_cons] at hm
 rw[Sp.weff_two (by decide) (by decide) (by decide)]
 by_cases hb:b=0
 ·subst hb
  rw[show Sp.op2 [47] a 0=none by simp[Sp.op2]]
  go_enter Tryz.func186,Tryz.ntmps186
  go_wp2_with fail
  refine(mtakeZ a M at' fuel E r code loops w hd hv.hM u p hv.he).mono ?_
  rintro e w1 ⟨rfl,ho1⟩
  go_wp2
  exact⟨rfl,ho1,rfl⟩
 ·rw[show Sp.op2 [47] a b=some (wrap64 (a.tdiv b)) by simp[Sp.op2,hb]]
  go_enter Tryz.func186,Tryz.ntmps186
  go_wp2_with fail
  refine(mtakeQ a b M at' fuel E r code loops w hd hb).mono ?_
  rintro e w1 ⟨rfl,hd1,ho1⟩
  go_wp2_with fail
  refine(mput (wrap64 (a.tdiv b)) M at' fuel E r code loops w1 hd1 (by omega)).mono ?_
  rintro e w2 ⟨rfl,hd2,ho2⟩
  go_wp2
  exact bodyPost_end (results_none rfl _ _ _) rfl ⟨ho1.trans ho2,rfl,hd2⟩
theorem mdo_14:MDoes 188 [37] 2 1:=by
 intro M at' fuel E T code loops u p w hd hv hn hm
 obtain⟨b,a,r,rfl⟩:=two_of hn
 simp only[List.length_cons] at hm
 rw[Sp.weff_two (by decide) (by decide) (by decide)]
 by_cases hb:b=0
 ·subst hb
  rw[show Sp.op2 [37] a 0=none by simp[Sp.op2]]
  go_enter Tryz.func188,Tryz.ntmps188
  go_wp2_with fail
  refine(mtakeZ a M at' fuel E r code loops w hd hv.hM u p hv.he).mono ?_
  rintro e w1 ⟨rfl,ho1⟩
  go_wp2
  exact⟨rfl,ho1,rfl⟩
 ·rw[show Sp.op2 [37] a b=some (a.tmod b) by simp[Sp.op2,hb]]
  go_enter Tryz.func188,Tryz.ntmps188
  go_wp2_with fail
  refine(mtakeQ a b M at' fuel E r code loops w hd hb).mono ?_
  rintro e w1 ⟨rfl,hd1,ho1⟩
  go_wp2_with fail
  refine(mput (a.tmod b) M at' fuel E r code loops w1 hd1 (by omega)).mono ?_
  rintro e w2 ⟨rfl,hd2,ho2⟩
  go_wp2
  exact bodyPost_end (results_none rfl _ _ _) rfl ⟨ho1.trans ho2,rfl,hd2⟩
theorem mdo_15:MDoes 189 [60] 2 1:=by
 intro M at' fuel E T code loops u p w hd hv hn hm
 obtain⟨b,a,r,rfl⟩:=two_of hn
 simp only[List.length_cons] at hm
 rw[Sp.weff_two (by decide) (by decide) (by decide),show Sp.op2 [60] a b=some (if (decide (a < b))=true then 1 else 0) by simp[Sp.op2]]
 generalize hq:(if (decide (a < b))=true then (1:Int) else 0)=v
 replace hq:=hde hq
 go_enter Tryz.func189,Tryz.ntmps189
 go_wp2_with fail
 refine(mtake2 a b M at' fuel E r code loops w hd).mono ?_
 rintro e w1 ⟨rfl,hd1,ho1⟩
 go_wp2_with fail
 refine(mputT (decide (a < b)) M at' fuel E r code loops w1 hd1 (by omega)).mono ?_
 rintro e w2 ⟨rfl,hd2,ho2⟩
 rw[uh hq] at hd2
 go_wp2
 exact bodyPost_end (results_none rfl _ _ _) rfl ⟨ho1.trans ho2,rfl,hd2⟩
theorem mdo_16:MDoes 191 [61] 2 1:=by
 intro M at' fuel E T code loops u p w hd hv hn hm
 obtain⟨b,a,r,rfl⟩:=two_of hn
 simp only[List.length_cons] at hm
 rw[Sp.weff_two (by decide) (by decide) (by decide),show Sp.op2 [61] a b=some (if (a == b)=true then 1 else 0) by simp[Sp.op2]]
 generalize hq:(if (a == b)=true then (1:Int) else 0)=v
 replace hq:=hde hq
 go_enter Tryz.func191,Tryz.ntmps191
 go_wp2_with fail
 refine(mtake2 a b M at' fuel E r code loops w hd).mono ?_
 rintro e w1 ⟨rfl,hd1,ho1⟩
 go_wp2_with fail
 refine(mputT (a == b) M at' fuel E r code loops w1 hd1 (by omega)).mono ?_
 rintro e w2 ⟨rfl,hd2,ho2⟩
 rw[uh hq] at hd2
 go_wp2
 exact bodyPost_end (results_none rfl _ _ _) rfl ⟨ho1.trans ho2,rfl,hd2⟩
theorem mdo_17:MDoes 192 [109,105,110] 2 1:=by
 intro M at' fuel E T code loops u p w hd hv hn hm
 obtain⟨b,a,r,rfl⟩:=two_of hn
 simp only[List.length_cons] at hm
 rw[Sp.weff_two (by decide) (by decide) (by decide),show Sp.op2 [109,105,110] a b=some (min a b) by simp[Sp.op2]]
 go_enter Tryz.func192,Tryz.ntmps192
 go_wp2_with fail
 refine(mtake2 a b M at' fuel E r code loops w hd).mono ?_
 rintro e w1 ⟨rfl,hd1,ho1⟩
 go_wp2_with fail
 refine(mput (min a b) M at' fuel E r code loops w1 hd1 (by omega)).mono ?_
 rintro e w2 ⟨rfl,hd2,ho2⟩
 go_wp2
 exact bodyPost_end (results_none rfl _ _ _) rfl ⟨ho1.trans ho2,rfl,hd2⟩
theorem mdo_18:MDoes 193 [109,97,120] 2 1:=by
 intro M at' fuel E T code loops u p w hd hv hn hm
 obtain⟨b,a,r,rfl⟩:=two_of hn
 simp only[List.length_cons] at hm
 rw[Sp.weff_two (by decide) (by decide) (by decide),show Sp.op2 [109,97,120] a b=some (max a b) by simp[Sp.op2]]
 go_enter Tryz.func193,Tryz.ntmps193
 go_wp2_with fail
 refine(mtake2 a b M at' fuel E r code loops w hd).mono ?_
 rintro e w1 ⟨rfl,hd1,ho1⟩
 go_wp2_with fail
 refine(mput (max a b) M at' fuel E r code loops w1 hd1 (by omega)).mono ?_
 rintro e w2 ⟨rfl,hd2,ho2⟩
 go_wp2
 exact bodyPost_end (results_none rfl _ _ _) rfl ⟨ho1.trans ho2,rfl,hd2⟩
theorem mdo_19:MDoes 194 [100,117,112] 1 2:=by
 intro M at' fuel E T code loops u p w hd hv hn hm
 obtain⟨a,r,rfl⟩:=one_of hn
 simp only[List.length_cons] at hm
 rw[show Sp.weff E [100,117,112] (a :: r)=some (a :: a :: r) by unfold Sp.weff;rw[show Sp.number [100,117,112]=none by decide];simp[Sp.loadsL,Sp.twosL]]
 go_enter Tryz.func194,Tryz.ntmps194
 go_wp2_with fail
 refine(mtake a M at' fuel E r code loops w hd).mono ?_
 rintro e w1 ⟨rfl,hd1,ho1⟩
 go_wp2_with fail
 refine(mput a M at' fuel E r code loops w1 hd1 (by omega)).mono ?_
 rintro e w2 ⟨rfl,hd2,ho2⟩
 go_wp2_with fail
 refine(mput a M at' fuel E (a :: r) code loops w2 hd2 (by simp;omega)).mono ?_
 rintro e w3 ⟨rfl,hd3,ho3⟩
 go_wp2
 exact bodyPost_end (results_none rfl _ _ _) rfl ⟨(ho1.trans ho2).trans ho3,rfl,hd3⟩
theorem mdo_20:MDoes 196 [100,114,111,112] 1 0:=by
 intro M at' fuel E T code loops u p w hd hv hn hm
 obtain⟨a,r,rfl⟩:=one_of hn
 simp only[List.length_cons] at hm
 rw[show Sp.weff E [100,114,111,112] (a :: r)=some (r) by unfold Sp.weff;rw[show Sp.number [100,114,111,112]=none by decide];simp[Sp.loadsL,Sp.twosL]]
 go_enter Tryz.func196,Tryz.ntmps196
 go_wp2_with fail
 refine(mtake a M at' fuel E r code loops w hd).mono ?_
 rintro e w1 ⟨rfl,hd1,ho1⟩
 go_wp2
 exact bodyPost_end (results_none rfl _ _ _) rfl ⟨ho1,rfl,hd1⟩
theorem mdo_21:MDoes 197 [115,119,97,112] 2 2:=by
 intro M at' fuel E T code loops u p w hd hv hn hm
 obtain⟨b,a,r,rfl⟩:=two_of hn
 simp only[List.length_cons] at hm
 rw[show Sp.weff E [115,119,97,112] (b :: a :: r)=some (a :: b :: r) by unfold Sp.weff;rw[show Sp.number [115,119,97,112]=none by decide];simp[Sp.loadsL,Sp.twosL]]
 go_enter Tryz.func197,Tryz.ntmps197
 go_wp2_with fail
 refine(mtake2 a b M at' fuel E r code loops w hd).mono ?_
 rintro e w1 ⟨rfl,hd1,ho1⟩
 go_wp2_with fail
 refine(mput b M at' fuel E r code loops w1 hd1 (by omega)).mono ?_
 rintro e w2 ⟨rfl,hd2,ho2⟩
 go_wp2_with fail
 refine(mput a M at' fuel E (b :: r) code loops w2 hd2 (by simp;omega)).mono ?_
 rintro e w3 ⟨rfl,hd3,ho3⟩
 go_wp2
 exact bodyPost_end (results_none rfl _ _ _) rfl ⟨(ho1.trans ho2).trans ho3,rfl,hd3⟩
theorem mdo_22:MDoes 198 [111,118,101,114] 2 3:=by
 intro M at' fuel E T code loops u p w hd hv hn hm
 obtain⟨b,a,r,rfl⟩:=two_of hn
 simp only[List.length_cons] at hm
 rw[show Sp.weff E [111,118,101,114] (b :: a :: r)=some (a :: b :: a :: r) by unfold Sp.weff;rw[show Sp.number [111,118,101,114]=none by decide];simp[Sp.loadsL,Sp.twosL]]
 go_enter Tryz.func198,Tryz.ntmps198
 go_wp2_with fail
 refine(mtake2 a b M at' fuel E r code loops w hd).mono ?_
 rintro e w1 ⟨rfl,hd1,ho1⟩
 go_wp2_with fail
 refine(mput a M at' fuel E r code loops w1 hd1 (by omega)).mono ?_
 rintro e w2 ⟨rfl,hd2,ho2⟩
 go_wp2_with fail
 refine(mput b M at' fuel E (a :: r) code loops w2 hd2 (by simp;omega)).mono ?_
 rintro e w3 ⟨rfl,hd3,ho3⟩
 go_wp2_with fail
 refine(mput a M at' fuel E (b :: a :: r) code loops w3 hd3 (by simp;omega)).mono ?_
 rintro e w4 ⟨rfl,hd4,ho4⟩
 go_wp2
 exact bodyPost_end (results_none rfl _ _ _) rfl ⟨((ho1.trans ho2).trans ho3).trans ho4,rfl,hd4⟩
theorem mchoose (a b c v:Int) (M at' fuel:Nat) (E:Sp.Ev) (r:List Int) (code loops:Value) (w:World) (hd:Mac w M code at' fuel E (c :: b :: a :: r) loops) (hv:Hid ((if a≠0 then b else c)=v)):Calls Tryz.prog 200 #[.pointer (some ⟨M,0,none⟩)] w fun e w'=>e = .returned (.tuple #[])∧Mac w' M code at' fuel E (v :: r) loops∧Only M w w':=by
 have hle:=hd.le
 simp only[List.length_cons] at hle
 by_cases ha:a=0
 ·have hac:(a != 0)=false:=by simp[ha]
  have hvc:c=v:=by rw[← uh hv,if_neg (by simp[ha])]
  subst hvc
  go_enter Tryz.func200,Tryz.ntmps200
  go_wp2_with fail
  refine(mtake2 b c M at' fuel E (a :: r) code loops w hd).mono ?_
  rintro e w1 ⟨rfl,hd1,ho1⟩
  go_wp2_with fail
  refine(mtake a M at' fuel E r code loops w1 hd1).mono ?_
  rintro e w2 ⟨rfl,hd2,ho2⟩
  go_wp2_with fail
  refine(mput c M at' fuel E r code loops w2 hd2 (by omega)).mono ?_
  rintro e w3 ⟨rfl,hd3,ho3⟩
  go_wp2
  exact bodyPost_end (results_none rfl _ _ _) rfl ⟨rfl,hd3,(ho1.trans ho2).trans ho3⟩
 ·have hac:(a != 0)=true:=by simp[ha]
  have hvc:b=v:=by rw[← uh hv,if_pos ha]
  subst hvc
  go_enter Tryz.func200,Tryz.ntmps200
  go_wp2_with fail
  refine(mtake2 b c M at' fuel E (a :: r) code loops w hd).mono ?_
  rintro e w1 ⟨rfl,hd1,ho1⟩
  go_wp2_with fail
  refine(mtake a M at' fuel E r code loops w1 hd1).mono ?_
  rintro e w2 ⟨rfl,hd2,ho2⟩
  go_wp2_with fail
  refine(mput b M at' fuel E r code loops w2 hd2 (by omega)).mono ?_
  rintro e w3 ⟨rfl,hd3,ho3⟩
  go_wp2
  exact bodyPost_end (results_none rfl _ _ _) rfl ⟨rfl,hd3,(ho1.trans ho2).trans ho3⟩
theorem mdo_23:MDoes 199 [63] 3 1:=by
 intro M at' fuel E T code loops u p w hd hv hn hm
 obtain⟨c,b,a,r,rfl⟩:=three_of hn
 rw[show Sp.weff E [63] (c :: b :: a :: r)=some ((if a≠0 then b else c) :: r) by unfold Sp.weff;rw[show Sp.number [63]=none by decide];simp[Sp.loadsL,Sp.twosL]]
 generalize hq:(if a≠0 then b else c)=v
 replace hq:=hde hq
 go_enter Tryz.func199,Tryz.ntmps199
 go_wp2_with fail
 refine(mchoose a b c v M at' fuel E r code loops w hd hq).mono ?_
 rintro e w1 ⟨rfl,hd1,ho1⟩
 go_wp2
 exact bodyPost_end (results_none rfl _ _ _) rfl ⟨ho1,rfl,hd1⟩
theorem mdo_num {x:List UInt8} {n:Int} (hx:Sp.number x=some n) (B M at' fuel:Nat) (E:Sp.Ev) (T:List Int) (code loops:Value) (u:TypeId) (p:Value) (w:World) (hd:Mac w M code at' fuel E T loops) (hl:T.length < 16) (hn:w.cell? ⟨B,0,none⟩=some (.int .i64 n)) :
  Calls Tryz.prog 300 #[.pointer (some ⟨M,0,none⟩),.pointer (some ⟨B,0,none⟩)] w (MPost (Sp.weff E x T) M at' fuel E code loops u p w):=by
 rw[show Sp.weff E x T=some (n :: T) by unfold Sp.weff;rw[hx]]
 go_enter Tryz.func300,Tryz.ntmps300
 go_wp2_with fail
 refine(mput n M at' fuel E T code loops w hd hl).mono ?_
 rintro e w1 ⟨rfl,hd1,ho1⟩
 go_wp2
 exact bodyPost_end (results_none rfl _ _ _) rfl ⟨ho1,rfl,hd1⟩
theorem mword:(k:Nat)→k < 23→MDoes (wfn[k]!) (Sp.nms[k]!) (Sp.wtk[k]!).1 (Sp.wtk[k]!).2
 | 0,_=>mdo_1
 | 1,_=>mdo_2
 | 2,_=>mdo_3
 | 3,_=>mdo_4
 | 4,_=>mdo_5
 | 5,_=>mdo_6
 | 6,_=>mdo_7
 | 7,_=>mdo_8
 | 8,_=>mdo_9
 | 9,_=>mdo_10
 | 10,_=>mdo_11
 | 11,_=>mdo_12
 | 12,_=>mdo_13
 | 13,_=>mdo_14
 | 14,_=>mdo_15
 | 15,_=>mdo_16
 | 16,_=>mdo_17
 | 17,_=>mdo_18
 | 18,_=>mdo_19
 | 19,_=>mdo_20
 | 20,_=>mdo_21
 | 21,_=>mdo_22
 | 22,_=>mdo_23
 | n+23,h=>absurd h (by omega)
theorem Mac.far {w w':World} {M at' fuel:Nat} {E:Sp.Ev} {T:List Int} {code loops:Value} (h:Mac w M code at' fuel E T loops) (hc:∀ j,w'.cell? ⟨M,j,none⟩=w.cell? ⟨M,j,none⟩) (hf:∀ j,w'.frozen? ⟨M,j,none⟩=w.frozen? ⟨M,j,none⟩):Mac w' M code at' fuel E T loops :=
 ⟨(hc _).trans h.c0,(hc _).trans h.c1,(hc _).trans h.c2,(hc _).trans h.e0,(hc _).trans h.e1,(hc _).trans h.e2,(hc _).trans h.e3,(hc _).trans h.e4,(hc _).trans h.e5,(hc _).trans h.e6,(hc _).trans h.e7,(hc _).trans h.e8,fun j hj=>by rw[hc];exact h.st j hj,fun j hj=>by rw[hc];exact h.sv j hj,(hc _).trans h.hh,(hc _).trans h.ll,(hc _).trans h.dr,fun j=>(hf j).trans (h.fz j),h.le⟩
theorem Mac.alloc {w:World} {M at' fuel:Nat} {E:Sp.Ev} {T:List Int} {code loops:Value} (hd:Mac w M code at' fuel E T loops) (o:Obj):Mac (w.alloc o) M code at' fuel E T loops :=
 hd.far (fun j=>((Below.refl w.heap.size w).alloc nlr o).cell (p:=⟨M,j,none⟩) hd.lt) (fun j=>((Below.refl w.heap.size w).alloc nlr o).frozen (p:=⟨M,j,none⟩) hd.lt)
theorem Mac.grown {w w':World} {M at' fuel:Nat} {E:Sp.Ev} {T:List Int} {code loops:Value} {row:Option Nat} (hd:Mac w M code at' fuel E T loops) (hg:w.grownBy w' row) (hne:some M≠row):Mac w' M code at' fuel E T loops :=
 hd.far (fun j=>hg.cell_far ⟨M,j,none⟩ hd.lt hne) (fun j=>hg.frozen_far ⟨M,j,none⟩ hd.lt hne)
theorem Mac.lps {w:World} {M at' fuel:Nat} {E:Sp.Ev} {T:List Int} {code loops:Value} (h:Mac w M code at' fuel E T loops) (l':Value):Mac (w.setCell ⟨M,29,none⟩ l') M code at' fuel E T l':=by
 have ho:∀ j,j≠29→(w.setCell ⟨M,29,none⟩ l').cell? ⟨M,j,none⟩=w.cell? ⟨M,j,none⟩:=fun j hj=>cso (by omega)
 have hle:=h.le
 exact⟨(ho _ (by omega)).trans h.c0,(ho _ (by omega)).trans h.c1,(ho _ (by omega)).trans h.c2,(ho _ (by omega)).trans h.e0,(ho _ (by omega)).trans h.e1,(ho _ (by omega)).trans h.e2,(ho _ (by omega)).trans h.e3,(ho _ (by omega)).trans h.e4,(ho _ (by omega)).trans h.e5,(ho _ (by omega)).trans h.e6,(ho _ (by omega)).trans h.e7,(ho _ (by omega)).trans h.e8,fun j hj=>by rw[ho _ (by omega)];exact h.st j hj,fun j hj=>by rw[ho _ (by omega)];exact h.sv j hj,(ho _ (by omega)).trans h.hh,World.cell?_setCell_same _ _ _ h.ll,(ho _ (by omega)).trans h.dr,fun j=>by rw[World.frozen?_setCell];exact h.fz j,h.le⟩
theorem Mac.att {w:World} {M at' fuel:Nat} {E:Sp.Ev} {T:List Int} {code loops:Value} (h:Mac w M code at' fuel E T loops) (a:Nat):Mac (w.setCell ⟨M,1,none⟩ (.int .i64 a)) M code a fuel E T loops:=by
 have ho:∀ j,j≠1→(w.setCell ⟨M,1,none⟩ (.int .i64 a)).cell? ⟨M,j,none⟩=w.cell? ⟨M,j,none⟩:=fun j hj=>cso (by omega)
 have hle:=h.le
 exact⟨(ho _ (by omega)).trans h.c0,World.cell?_setCell_same _ _ _ h.c1,(ho _ (by omega)).trans h.c2,(ho _ (by omega)).trans h.e0,(ho _ (by omega)).trans h.e1,(ho _ (by omega)).trans h.e2,(ho _ (by omega)).trans h.e3,(ho _ (by omega)).trans h.e4,(ho _ (by omega)).trans h.e5,(ho _ (by omega)).trans h.e6,(ho _ (by omega)).trans h.e7,(ho _ (by omega)).trans h.e8,fun j hj=>by rw[ho _ (by omega)];exact h.st j hj,fun j hj=>by rw[ho _ (by omega)];exact h.sv j hj,(ho _ (by omega)).trans h.hh,(ho _ (by omega)).trans h.ll,(ho _ (by omega)).trans h.dr,fun j=>by rw[World.frozen?_setCell];exact h.fz j,h.le⟩
theorem Mac.fue {w:World} {M at' fuel:Nat} {E:Sp.Ev} {T:List Int} {code loops:Value} (h:Mac w M code at' fuel E T loops) (a:Nat):Mac (w.setCell ⟨M,2,none⟩ (.int .i64 a)) M code at' a E T loops:=by
 have ho:∀ j,j≠2→(w.setCell ⟨M,2,none⟩ (.int .i64 a)).cell? ⟨M,j,none⟩=w.cell? ⟨M,j,none⟩:=fun j hj=>cso (by omega)
 have hle:=h.le
 exact⟨(ho _ (by omega)).trans h.c0,(ho _ (by omega)).trans h.c1,World.cell?_setCell_same _ _ _ h.c2,(ho _ (by omega)).trans h.e0,(ho _ (by omega)).trans h.e1,(ho _ (by omega)).trans h.e2,(ho _ (by omega)).trans h.e3,(ho _ (by omega)).trans h.e4,(ho _ (by omega)).trans h.e5,(ho _ (by omega)).trans h.e6,(ho _ (by omega)).trans h.e7,(ho _ (by omega)).trans h.e8,fun j hj=>by rw[ho _ (by omega)];exact h.st j hj,fun j hj=>by rw[ho _ (by omega)];exact h.sv j hj,(ho _ (by omega)).trans h.hh,(ho _ (by omega)).trans h.ll,(ho _ (by omega)).trans h.dr,fun j=>by rw[World.frozen?_setCell];exact h.fz j,h.le⟩
def flat2:List (Int × Nat)→List Value
 | []=>[]
 | (k,h) :: r=>.int .i64 k :: .int .i64 h :: flat2 r
theorem flat2_len (ls:List (Int × Nat)):(flat2 ls).length=ls.length * 2:=by
 induction ls with
 | nil=>rfl
 | cons h r ih=>simp only[flat2,List.length_cons,ih];omega
theorem flat2_app (a b:List (Int × Nat)):flat2 (a++b)=flat2 a++flat2 b:=by
 induction a with
 | nil=>rfl
 | cons h r ih=>simp[flat2,ih]
theorem mbegin1 (v:Int) (M at' fuel n:Nat) (E:Sp.Ev) (T:List Int) (code x:Value) (xs:List Value) (w:World) (hd:Mac w M code at' fuel E (v :: T) x) (hv:¬ v < 1) (hn:n≤10000) (ho:w.ownsRow (M+1) 379 2 x n xs) :
  Calls Tryz.prog 202 #[.pointer (some ⟨M,0,none⟩)] w fun e w'=>e = .returned (.tuple #[])∧∃ x',Mac w' M code at' fuel E T x'∧w'.ownsRow (M+1) 379 2 x' (n+1) (xs++[.int .i64 v,.int .i64 T.length])∧Below M w w':=by
 obtain⟨t2,ht2,hva,hvb,hvc⟩:=info_parts Tryz.info_loop
 have hv1:(1:Int)≤v:=by omega
 go_enter Tryz.func202,Tryz.ntmps202
 go_wp2_with fail
 refine(mtake v M at' fuel E T code x w hd).mono ?_
 rintro e w1 ⟨rfl,hd1,ho1⟩
 have hr:w1.ownsRow (M+1) 379 2 x n xs:=ho1.own ho
 have hml:=hd1.lt
 have e1:=hd1.hh
 have e2:=hd1.ll
 have e3:=hd1.fz 29
 have hne2:some M≠x.ownBlock:=fun e=>by have:=(hr.lt M e.symm).1;omega
 go_wp2_with fail
 go_region_law ((refine step_append_lies _ (by rfl) _ _ _ (by rfl) (M+1) 379 t2 _ 2 16 Tryz.underlying257 ht2 hva hvb hvc rfl (by omega) x _ _ (by rfl) ((hr.alloc _).drew) ⟨w1.heap.size,0,none⟩ 1 1 [.int .i64 v,.int .i64 (T.length:Int)] (by rfl) (by rfl) (World.news_of_block (cs := #[.int .i64 v,.int .i64 (T.length:Int)]) (t:=379) (fr:=(0,0)) (heap_alloc_new w1 _)) (by simp[Value.oneCell']) (by omega) (by unfold maxLen;omega) (by omega) (by simp;omega) (w1.heap.size+1) (by simp) ?_;intro gg cp w2 hown1 hgrow hat hlt1;have hq0:w2.cell? ⟨M,29,none⟩=some x:=(hgrow.cell_far ⟨M,29,none⟩ (by simp;omega) hne2).trans ((hd1.alloc _).drew).ll;have hq1:w2.frozen? ⟨M,29,none⟩=false:=(hgrow.frozen_far ⟨M,29,none⟩ (by simp;omega) hne2).trans (((hd1.alloc _).drew).fz 29)))
 all_goals
  have hb1:=below_app (((Below.refl M w1).alloc (Nat.le_of_lt hml) _).drew) ((hd1.alloc _).drew).lt ((hr.alloc _).drew) hgrow 29 (.slice (some ⟨gg,0,none⟩) (n+1) cp)
  exact bodyPost_end (results_none rfl _ _ _) rfl ⟨rfl,_,(((hd1.alloc _).drew).grown hgrow hne2).lps _,((Only.refl M w2).set _ _).own hown1,ho1.below.trans hb1⟩
theorem mbegin0 (v:Int) (M at' fuel g N cap m:Nat) (E:Sp.Ev) (T:List Int) (x:Value) (w:World) (hd:Mac w M (.slice (some ⟨g,0,none⟩) N cap) at' fuel E (v :: T) x) (hv:v < 1) (hat:at' < N) (hg:g≠M) (hmate:w.cell? ⟨g,at' * 2+1,none⟩=some (.int .i64 m)) :
  Calls Tryz.prog 202 #[.pointer (some ⟨M,0,none⟩)] w fun e w'=>e = .returned (.tuple #[])∧Mac w' M (.slice (some ⟨g,0,none⟩) N cap) m fuel E T x∧Only M w w':=by
 go_enter Tryz.func202,Tryz.ntmps202
 go_wp2_with fail
 refine(mtake v M at' fuel E T _ x w hd).mono ?_
 rintro e w1 ⟨rfl,hd1,ho1⟩
 have e0:=hd1.c0
 have e1:=hd1.c1
 have f1:=hd1.fz 1
 have hm1:=(ho1.cell (j:=at' * 2+1) hg).trans hmate
 have g0:(0:Int)≤(at':Int):=Int.natCast_nonneg _
 have g1:(at':Int) < (N:Int):=by omega
 go_wp2_with fail
 go_region
 all_goals
  go_wp2
  first
  | exact bodyPost_ret (results_none rfl _ _ _) rfl ⟨rfl,(hd1.att m).drew,(ho1.trans ((Only.refl M w1).set _ _)).drew⟩
  | exact bodyPost_end (results_none rfl _ _ _) rfl ⟨rfl,(hd1.att m).drew,(ho1.trans ((Only.refl M w1).set _ _)).drew⟩
theorem mend0 (k:Int) (M at' fuel n g cap:Nat) (E:Sp.Ev) (T:List Int) (code:Value) (xs:List Value) (w:World) (hd:Mac w M code at' fuel E T (.slice (some ⟨g,0,none⟩) (n+1) cap)) (hn:n≤10000) (ho:w.ownsRow (M+1) 379 2 (.slice (some ⟨g,0,none⟩) (n+1) cap) (n+1) (xs++[.int .i64 k,.int .i64 T.length])) (hl:xs.length=n * 2) (hk:k=1) :
  Calls Tryz.prog 204 #[.pointer (some ⟨M,0,none⟩)] w fun e w'=>e = .returned (.tuple #[])∧Mac w' M code at' fuel E T (.slice (some ⟨g,0,none⟩) n cap)∧w'.ownsRow (M+1) 379 2 (.slice (some ⟨g,0,none⟩) n cap) n xs∧Below M w w':=by
 subst hk
 obtain⟨h,hh⟩:∃ h,T.length=h:=⟨_,rfl⟩
 have q0:w.cell? ⟨g,n * 2,none⟩=some (.int .i64 1):=(ho.cellAt (n * 2) (by omega)).trans (by rw[List.getElem?_append_right (by omega),hl];simp)
 have q1:w.cell? ⟨g,n * 2+1,none⟩=some (.int .i64 T.length):=(ho.cellAt (n * 2+1) (by omega)).trans (by rw[List.getElem?_append_right (by omega),hl];simp)
 have q2:=ho.frozenAt (n * 2)
 have hgM:M < g:=(ho.lt g rfl).1
 have hMg:M≠g:=by omega
 have hgm:g≠M:=by omega
 have hcap:n+1≤cap:=by
  rcases ho.2 with ⟨h0,_⟩ | ⟨g',cap',cur,hv,hB,hg,r⟩
  ·cases h0
  ·cases hv;exact r.1
 have hc0:(n:Int)≤(cap:Int):=by omega
 have hc1:n≤cap:=by omega
 have e1:=hd.hh
 have e2:=hd.ll
 have e3:=hd.fz 29
 have g0:((n+1:Nat):Int) - 1=(n:Int):=by omega
 have g1:(0:Int)≤(n:Int):=Int.natCast_nonneg _
 have g2:(n:Int) < ((n+1:Nat):Int):=by omega
 have HZ:Hid (∀ k,(fun w'=>Mac w' M code at' fuel E T (.slice (some ⟨g,0,none⟩) n cap)∧w'.ownsRow (M+1) 379 2 (.slice (some ⟨g,0,none⟩) n cap) n xs∧Below M w w') ((((w.drewN k).setCell ⟨g,n * 2,none⟩ (.int .i64 0)).setCell ⟨M,29,none⟩ (.slice (some ⟨g,0,none⟩) n cap)).drew)):=by
  intro k
  have hbk:=below_drewN w k
  have hd1:=hd.drewN k
  have ho1:=obl ho hbk
  have hst:=ho1.stored (n * 2) (.int .i64 0)
  have hd2:=hd1.grown hst.2 (by simp[Value.ownBlock];omega)
  have ho2:=own_cut hst.1
  rw[List.set_append_right _ _ (by omega),List.take_left' (by omega)] at ho2
  have hb2:=((hbk.mono (Nat.le_of_lt hd.lt)).setCell (p:=⟨g,n * 2,none⟩) (Nat.le_of_lt hgM) (.int .i64 0)).setCell (p:=⟨M,29,none⟩) nlr (.slice (some ⟨g,0,none⟩) n cap)
  exact⟨(hd2.lps _).drew,(((Only.refl M _).set _ _).own ho2).drew,hb2.drew⟩
 rw[hh] at q1 e1
 have g3:(((h:Nat):Int) != ((h:Nat):Int))=false:=by simp
 clear hh hd ho
 go_enter Tryz.func204,Tryz.ntmps204
 go_wp2_with fail
 go_quiet (fail)
 go_wp2_with fail
 go_quiet (fail)
 go_wp2
 go_region
 generalize nq=n2 at *
 exact bodyPost_end (results_none rfl _ _ _) rfl ⟨rfl,(uh HZ _).1,(uh HZ _).2.1,(uh HZ _).2.2⟩
theorem mend1 (k:Int) (M at' fuel n g cap gc N cc m:Nat) (E:Sp.Ev) (T:List Int) (xs:List Value) (w:World) (hd:Mac w M (.slice (some ⟨gc,0,none⟩) N cc) at' fuel E T (.slice (some ⟨g,0,none⟩) (n+1) cap)) (hn:n≤10000) (ho:w.ownsRow (M+1) 379 2 (.slice (some ⟨g,0,none⟩) (n+1) cap) (n+1) (xs++[.int .i64 k,.int .i64 T.length])) (hl:xs.length=n * 2) (hk:1 < k) (hk2:k≤9223372036854775807) (hat:at' < N) (hgc:gc < M) (hmate:w.cell? ⟨gc,at' * 2+1,none⟩=some (.int .i64 m)) :
  Calls Tryz.prog 204 #[.pointer (some ⟨M,0,none⟩)] w fun e w'=>e = .returned (.tuple #[])∧Mac w' M (.slice (some ⟨gc,0,none⟩) N cc) m fuel E T (.slice (some ⟨g,0,none⟩) (n+1) cap)∧w'.ownsRow (M+1) 379 2 (.slice (some ⟨g,0,none⟩) (n+1) cap) (n+1) (xs++[.int .i64 (k - 1),.int .i64 T.length])∧Below M w w':=by
 obtain⟨h,hh⟩:∃ h,T.length=h:=⟨_,rfl⟩
 have q0:w.cell? ⟨g,n * 2,none⟩=some (.int .i64 k):=(ho.cellAt (n * 2) (by omega)).trans (by rw[List.getElem?_append_right (by omega),hl];simp)
 have q1:w.cell? ⟨g,n * 2+1,none⟩=some (.int .i64 T.length):=(ho.cellAt (n * 2+1) (by omega)).trans (by rw[List.getElem?_append_right (by omega),hl];simp)
 have q2:=ho.frozenAt (n * 2)
 have hgM:M < g:=(ho.lt g rfl).1
 have hMg:M≠g:=by omega
 have hgm:g≠M:=by omega
 have hgg:g≠gc:=by omega
 have e0:=hd.c0
 have ea:=hd.c1
 have e1:=hd.hh
 have e2:=hd.ll
 have e3:=hd.fz 1
 have g0:((n+1:Nat):Int) - 1=(n:Int):=by omega
 have g1:(0:Int)≤(n:Int):=Int.natCast_nonneg _
 have g2:(n:Int) < ((n+1:Nat):Int):=by omega
 have g4:(0:Int)≤(at':Int):=Int.natCast_nonneg _
 have g5:(at':Int) < (N:Int):=by omega
 have hst0:=ho.stored (n * 2) (.int .i64 (k - 1))
 have k2:(w.setCell ⟨g,n * 2,none⟩ (.int .i64 (k - 1))).cell? ⟨g,n * 2,none⟩=some (.int .i64 (k - 1)):=World.cell?_setCell_same _ _ _ q0
 have HZ:Hid (∀ j,(fun w'=>Mac w' M (.slice (some ⟨gc,0,none⟩) N cc) m fuel E T (.slice (some ⟨g,0,none⟩) (n+1) cap)∧w'.ownsRow (M+1) 379 2 (.slice (some ⟨g,0,none⟩) (n+1) cap) (n+1) (xs++[.int .i64 (k - 1),.int .i64 T.length])∧Below M w w') ((((w.drewN j).setCell ⟨g,n * 2,none⟩ (.int .i64 (k - 1))).setCell ⟨M,1,none⟩ (.int .i64 m)).drew)):=by
  intro j
  have hbk:=below_drewN w j
  have hd1:=hd.drewN j
  have ho1:=obl ho hbk
  have hst:=ho1.stored (n * 2) (.int .i64 (k - 1))
  have hd2:=hd1.grown hst.2 (by simp[Value.ownBlock];omega)
  have ho2:=hst.1
  rw[List.set_append_right _ _ (by omega),hl,Nat.sub_self] at ho2
  have hb2:=((hbk.mono (Nat.le_of_lt hd.lt)).setCell (p:=⟨g,n * 2,none⟩) (Nat.le_of_lt hgM) (.int .i64 (k - 1))).setCell (p:=⟨M,1,none⟩) nlr (.int .i64 m)
  exact⟨(hd2.att _).drew,(((Only.refl M _).set _ _).own ho2).drew,hb2.drew⟩
 rw[hh] at q1 e1
 have g3:(((h:Nat):Int) != ((h:Nat):Int))=false:=by simp
 have g6:(0:Int) < k - 1:=by omega
 have g7:k - 1≤9223372036854775807:=by omega
 clear hh hd ho hst0
 go_enter Tryz.func204,Tryz.ntmps204
 go_wp2_with fail
 go_quiet (fail)
 go_wp2_with fail
 go_quiet (fail)
 go_wp2
 go_region
 all_goals
  go_wp2
  generalize nq=n2 at *
  first
  | exact bodyPost_ret (results_none rfl _ _ _) rfl ⟨rfl,(uh HZ _).1,(uh HZ _).2.1,(uh HZ _).2.2⟩
  | exact bodyPost_end (results_none rfl _ _ _) rfl ⟨rfl,(uh HZ _).1,(uh HZ _).2.1,(uh HZ _).2.2⟩
end Go.Proofs.YteflnddphpjahaaGreatDoor
namespace Go.Proofs.YteflnddphpjahaaGreatDoor.Sp
open Go Go.RowKit
theorem rd_succ {L:List (List UInt8)} {i:Nat} {ms op:List Nat} (hi:i < L.length) (e:rdTo L i=some (ms,op)):rdTo L (i+1)=rst L[i] i ms op:=by
 rw[rdTo,e]
 simp only
 rw[getD_of hi]
theorem rd_ms (L:List (List UInt8)):∀ (k:Nat) (m o:List Nat),rdTo L k=some (m,o)→m.length=k:=by
 intro k
 induction k with
 | zero=>intro m' o' h;simp[rdTo] at h;obtain⟨rfl,_⟩:=h;rfl
 | succ k ih =>
  intro m' o' h
  simp only[rdTo] at h
  split at h
  ·cases h
  ·rename_i m2 o2 h2
   rw[(rst_len h).1,ih _ _ h2]
theorem rd_op (L:List (List UInt8)):∀ (k:Nat) (m o:List Nat),rdTo L k=some (m,o)→∀ q ∈ o,q < k:=by
 intro k
 induction k with
 | zero=>intro m' o' h;simp[rdTo] at h;obtain⟨_,rfl⟩:=h;intro q hq;cases hq
 | succ k ih =>
  intro m' o' h q hq
  simp only[rdTo] at h
  split at h
  ·cases h
  ·rename_i m2 o2 h2
   have:=ih _ _ h2
   unfold rst at h
   split at h
   ·injection h with h;injection h with _ h;subst h
    rcases List.mem_append.1 hq with hq | hq
    ·have:=this q hq;omega
    ·rw[List.mem_singleton] at hq;omega
   ·split at h
    ·split at h
     ·injection h with h;injection h with _ h;subst h
      have:=this q ((List.dropLast_sublist _).subset hq);omega
     ·cases h
    ·injection h with h;injection h with _ h;subst h
     have:=this q hq;omega
theorem rd_nodup (L:List (List UInt8)):∀ (k:Nat) (m o:List Nat),rdTo L k=some (m,o)→o.Nodup:=by
 intro k
 induction k with
 | zero=>intro m' o' h;simp[rdTo] at h;obtain⟨_,rfl⟩:=h;exact List.nodup_nil
 | succ k ih =>
  intro m' o' h
  simp only[rdTo] at h
  split at h
  ·cases h
  ·rename_i m2 o2 h2
   have hn:=ih _ _ h2
   have hb:=rd_op L _ _ _ h2
   unfold rst at h
   split at h
   ·injection h with h;injection h with _ h;subst h
    refine List.nodup_append.2 ⟨hn,by simp,fun a ha b hb'=>?_⟩
    rw[List.mem_singleton] at hb'
    have:=hb a ha
    omega
   ·split at h
    ·split at h
     ·injection h with h;injection h with _ h;subst h
      exact(List.dropLast_sublist _).nodup hn
     ·cases h
    ·injection h with h;injection h with _ h;subst h
     exact hn
theorem rd_keep (L:List (List UInt8)) {i:Nat} {ms op:List Nat} (e:rdTo L i=some (ms,op)):∀ (d:Nat) (ms' op':List Nat),rdTo L (i+d)=some (ms',op')→(∀ p,p < i→p ∉ op→ms'.getD p 0=ms.getD p 0)∧(∀ q ∈ op',q < i→q ∈ op):=by
 intro d
 induction d with
 | zero =>
  intro ms' op' h
  rw[Nat.add_zero,e] at h
  injection h with h;injection h with h1 h2;subst h1 h2
  exact⟨fun _ _ _=>rfl,fun q hq _=>hq⟩
 | succ d ih =>
  intro ms' op' h
  rw[← Nat.add_assoc,rdTo] at h
  split at h
  ·cases h
  ·rename_i m2 o2 h2
   obtain⟨g1,g2⟩:=ih _ _ h2
   have hlen:=rd_ms L _ _ _ h2
   have hget:∀ p,p < i→(m2++[0]).getD p 0=m2.getD p 0:=fun p hp=>by
    rw[List.getD_eq_getElem?_getD,List.getD_eq_getElem?_getD,List.getElem?_append_left (by omega)]
   unfold rst at h
   split at h
   ·injection h with h;injection h with h1 h2';subst h1 h2'
    refine⟨fun p hp hn=>(hget p hp).trans (g1 p hp hn),fun q hq hqi=>?_⟩
    rcases List.mem_append.1 hq with hq | hq
    ·exact g2 q hq hqi
    ·rw[List.mem_singleton] at hq;omega
   ·split at h
    ·split at h
     ·rename_i l hl
      injection h with h;injection h with h1 h2';subst h1 h2'
      have hlm:l ∈ o2:=List.mem_of_getLast? hl
      refine⟨fun p hp hn=>?_,fun q hq hqi=>g2 q ((List.dropLast_sublist _).subset hq) hqi⟩
      have hpl:l≠p:=fun e=>by subst e;exact hn (g2 l hlm hp)
      rw[List.getD_eq_getElem?_getD,List.getElem?_set_ne hpl,List.getElem?_set_ne (by omega),← List.getD_eq_getElem?_getD]
      exact(hget p hp).trans (g1 p hp hn)
     ·cases h
    ·injection h with h;injection h with h1 h2';subst h1 h2'
     exact⟨fun p hp hn=>(hget p hp).trans (g1 p hp hn),g2⟩
theorem rd_bal (L:List (List UInt8)):∀ (N:Nat) (S T:List (List UInt8)) (i:Nat) (ms op:List Nat),S.length≤N→L.drop i=S++T→i+S.length≤L.length→fmd true S 0=true→rdTo L i=some (ms,op)→∃ ms',rdTo L (i+S.length)=some (ms',op):=by
 intro N
 induction N with
 | zero =>
  intro S T i ms op hN hL ha hf e
  have:S=[]:=List.eq_nil_of_length_eq_zero (by omega)
  subst this
  exact⟨ms,e⟩
 | succ N ih =>
  intro S T i ms op hN hL ha hf e
  cases S with
  | nil=>exact⟨ms,e⟩
  | cons x r =>
   obtain⟨h1,h2,h3⟩:=fmd_cons hf
   simp only[List.length_cons] at hN ha ⊢
   have hi:i < L.length:=by omega
   have hx:L[i]=x:=by
    have:=List.drop_eq_getElem_cons hi
    rw[hL] at this
    simp only[List.cons_append,List.cons.injEq] at this
    exact this.1.symm
   have hLr:L.drop (i+1)=r++T:=by
    have:=List.drop_eq_getElem_cons hi
    rw[hL] at this
    simp only[List.cons_append,List.cons.injEq] at this
    exact this.2.symm
   have e1:=rd_succ hi e
   rw[hx] at e1
   by_cases c1:x=[91]
   ·subst c1
    rw[show ds [91]=1 by decide] at h3
    obtain⟨R1,R2,er,b1,b2,_⟩:=fmd_split r 0 (Int.le_refl _) (by simpa using h3)
    have hrl:r.length=R1.length+(R2.length+1):=by rw[er];simp
    have e2:rdTo L (i+1)=some (ms++[0],op++[i]):=by rw[e1];unfold rst;rw[if_pos rfl]
    obtain⟨m3,e3⟩:=ih R1 ([93] :: R2++T) (i+1) _ _ (by omega) (by rw[hLr,er];simp) (by omega) b1 e2
    have hn:i+1+R1.length < L.length:=by omega
    have hy:L[i+1+R1.length]=[93]:=by
     have h0:(L.drop (i+1))[R1.length]? = some [93]:=by rw[hLr,er];simp
     rw[List.getElem?_drop,List.getElem?_eq_getElem hn] at h0
     exact Option.some.inj h0
    have e4:=rd_succ hn e3
    rw[hy] at e4
    have e5:∃ m5,rdTo L (i+1+R1.length+1)=some (m5,op):=by
     refine⟨((m3++[0]).set (i+1+R1.length) i).set i (i+1+R1.length),?_⟩
     rw[e4]
     unfold rst
     rw[if_neg (by decide),if_pos rfl]
     simp only[List.getLast?_append,List.getLast?_singleton,Option.some_or,List.dropLast_concat]
    obtain⟨m5,e5⟩:=e5
    have hL2:L.drop (i+1+R1.length+1)=R2++T:=by
     rw[Nat.add_assoc (i+1),← List.drop_drop,hLr,er]
     rw[show R1++[93] :: R2++T=(R1++[[93]])++(R2++T) by simp]
     exact List.drop_left' (by simp)
    obtain⟨m6,e6⟩:=ih R2 T (i+1+R1.length+1) _ _ (by omega) hL2 (by omega) b2 e5
    exact⟨m6,by rw[show i+(r.length+1)=i+1+R1.length+1+R2.length by omega];exact e6⟩
   ·have c2:x≠[93]:=by
     rintro rfl
     rw[show ds [93] = -1 by decide] at h2
     omega
    rw[ds_none c1 c2] at h3
    have e2:rdTo L (i+1)=some (ms++[0],op):=by rw[e1];unfold rst;rw[if_neg c1,if_neg c2]
    obtain⟨m3,e3⟩:=ih r T (i+1) _ _ (by omega) hLr (by omega) (by simpa using h3) e2
    exact⟨m3,by rw[show i+(r.length+1)=i+1+r.length by omega];exact e3⟩
theorem mate_shut {L:List (List UInt8)} {MS:List Nat} (hM:rdTo L L.length=some (MS,[])) {e a:Nat} {ms op:List Nat} (he:e < L.length) (hx:L[e]=[93]) (h:rdTo L e=some (ms,op++[a])):MS.getD e 0=a∧MS.getD a 0=e:=by
 have e1:=rd_succ he h
 rw[hx] at e1
 unfold rst at e1
 rw[if_neg (by decide),if_pos rfl] at e1
 simp only[List.getLast?_append,List.getLast?_singleton,Option.some_or,List.dropLast_concat] at e1
 have hl:=rd_ms L _ _ _ h
 have hao:=rd_op L _ _ _ h
 have hae:a < e:=hao a (by simp)
 have hk:=rd_keep L e1 (L.length - (e+1)) MS [] (by rw[show e+1+(L.length - (e+1))=L.length by omega];exact hM)
 have hop:=rd_op L _ _ _ e1
 have hne:e ∉ op:=fun hm=>by have:=hao e (List.mem_append_left _ hm);omega
 constructor
 ·rw[hk.1 e (by omega) hne,List.getD_eq_getElem?_getD,List.getElem?_set_ne (by omega),List.getElem?_set_self (by simp;omega)];rfl
 ·by_cases hm:a ∈ op
  ·have hnd:=rd_nodup L _ _ _ h
   rw[List.nodup_append] at hnd
   exact absurd rfl (hnd.2.2 a hm a (by simp))
  ·rw[hk.1 a (by omega) hm,List.getD_eq_getElem?_getD,List.getElem?_set_self (by simp;omega)];rfl
def PlOk (L:List (List UInt8)):List (Int × Nat)→Prop
 | []=>True
 | (k,a) :: r=>(∃ ms,rdTo L (a+1)=some (ms,(a :: r.map Prod.snd).reverse))∧PlOk L r
structure PInv (L:List (List UInt8)) (s:Ms):Prop where
 at':∃ ms,rdTo L s.at'=some (ms,(s.lp.map Prod.snd).reverse)
 pl:PlOk L s.lp
theorem skip_rd {L:List (List UInt8)} (hf:fmd true L 0=true) {r:Nat × List Nat} (hk:drun L 0 []=some r) {a h:Nat} {ls:List Nat} (ha:a < L.length) (hb:L[a]=[91]) (e:drun (L.take a) 0 []=some (h,ls)) {ms op:List Nat} (er:rdTo L a=some (ms,op)) :
  ∃ n ms' ms2,clo (L.drop a) a 0=some n∧n < L.length∧L.getD n []=[93]∧rdTo L n=some (ms2,op++[a])∧rdTo L (n+1)=some (ms',op):=by
 obtain⟨h1,ls1,d1,e1⟩:=at_word hk ha e
 rw[hb] at d1
 obtain⟨hne,d1⟩:=dst_91 d1
 injection d1 with d1 d2
 subst d1 d2
 obtain⟨f1,f2⟩:=drn_fmd hf _ _ _ (by omega) e1
 obtain⟨R1,R2,es,b1,b2,b3⟩:=fmd_split2 (L.drop (a+1)) ls.length 0 (Int.natCast_nonneg _) (by omega) (by
  have:((ls++[h - 1]).length:Int)=(ls.length:Int)+0+1:=by simp
  rw[← this];exact f1)
 have hlen:R1.length+(R2.length+1)=L.length - (a+1):=by
  have:=congrArg List.length es
  simp only[List.length_drop,List.length_append,List.length_cons] at this
  omega
 have hclo:clo (L.drop a) a 0=some (a+1+R1.length):=by
  rw[List.drop_eq_getElem_cons ha,hb]
  simp only[clo,show ds [91]=1 by decide]
  rw[if_neg (by omega)]
  have:=b3 (a+1) []
  rw[List.append_nil] at this
  simpa using this
 have hn:a+1+R1.length < L.length:=by omega
 have hx:L[a+1+R1.length]=[93]:=by
  have h0:(L.drop (a+1))[R1.length]? = some [93]:=by rw[es];simp
  rw[List.getElem?_drop,List.getElem?_eq_getElem hn] at h0
  exact Option.some.inj h0
 have e2:rdTo L (a+1)=some (ms++[0],op++[a]):=by rw[rd_succ ha er,hb];unfold rst;rw[if_pos rfl]
 obtain⟨m3,e3⟩:=rd_bal L R1.length R1 ([93] :: R2) (a+1) _ _ nlr es (by omega) b1 e2
 have e4:=rd_succ hn e3
 rw[hx] at e4
 refine⟨_,((m3++[0]).set (a+1+R1.length) a).set a (a+1+R1.length),m3,hclo,hn,by rw[getD_of hn];exact hx,e3,?_⟩
 rw[e4]
 unfold rst
 rw[if_neg (by decide),if_pos rfl]
 simp only[List.getLast?_append,List.getLast?_singleton,Option.some_or,List.dropLast_concat]
theorem mstep_pinv {L:List (List UInt8)} {E:Ev} (hf:fmd true L 0=true) {r:Nat × List Nat} (hk:drun L 0 []=some r) {s t:Ms} (hs:HInv L s) (hp:PInv L s) (hi:s.at' < L.length) (h:mstep L E s=some t):PInv L t:=by
 obtain⟨hh,ls,e,hT,hl⟩:=hs.ex
 obtain⟨ms,er⟩:=hp.at'
 have e1:=rd_succ hi er
 unfold mstep at h
 rw[getD_of hi] at h
 split at h
 ·cases h
 ·split at h
  ·rename_i hb
   split at h
   ·cases h
   ·rename_i n T hTT
    split at h
    ·obtain⟨m,ms',ms2,m1,m2,m3,m4,m5⟩:=skip_rd hf hk hi hb e er
     injection h with h;subst h
     rw[m1]
     exact⟨⟨ms',m5⟩,hp.pl⟩
    ·injection h with h;subst h
     have e2:rdTo L (s.at'+1)=some (ms++[0],(s.lp.map Prod.snd).reverse++[s.at']):=by rw[e1,hb];unfold rst;rw[if_pos rfl]
     have e3:rdTo L (s.at'+1)=some (ms++[0],(s.at' :: s.lp.map Prod.snd).reverse):=by rw[e2,List.reverse_cons]
     exact⟨⟨_,by simpa using e3⟩,⟨_,e3⟩,hp.pl⟩
  ·split at h
   ·rename_i hb1 hb
    split at h
    ·cases h
    ·rename_i k a rr hlp
     have hpl:=hp.pl
     rw[hlp] at hpl er e1
     obtain⟨⟨ms0,e0⟩,hpl0⟩:=hpl
     split at h
     ·injection h with h;subst h
      exact⟨⟨ms0,by simpa using e0⟩,⟨ms0,e0⟩,hpl0⟩
     ·injection h with h;subst h
      rw[hb] at e1
      unfold rst at e1
      rw[if_neg (by decide),if_pos rfl] at e1
      simp only[List.map_cons,List.reverse_cons,List.getLast?_append,List.getLast?_singleton,Option.some_or,List.dropLast_concat] at e1
      exact⟨⟨_,e1⟩,hpl0⟩
   ·rename_i hb1 hb2
    obtain⟨T,hw,h⟩:=Option.map_eq_some_iff.1 h
    subst h
    have e2:rdTo L (s.at'+1)=some (ms++[0],(s.lp.map Prod.snd).reverse):=by rw[e1];unfold rst;rw[if_neg hb1,if_neg hb2]
    exact⟨⟨_,e2⟩,hp.pl⟩
theorem pinv0 (L:List (List UInt8)) (f:Nat):PInv L ⟨0,f,[],[]⟩:=⟨⟨[],rfl⟩,trivial⟩
def i64 (n:Int):Prop := -9223372036854775808≤n∧n≤9223372036854775807
structure EvOk (E:Ev):Prop where
 value:i64 E.value
 old:i64 E.old
 inn:i64 E.inn
 got:i64 E.got
 step:i64 E.step
 id:i64 E.id
 deg:i64 E.deg
 all:i64 E.all
 weight:i64 E.weight
theorem i64_wrap (n:Int):i64 (wrap64 n):=by unfold i64 wrap64;constructor <;> omega
theorem ldv_ok {E:Ev} (h:EvOk E) (x:List UInt8):i64 (ldv E x):=by
 unfold ldv
 repeat' split
 ·exact h.value
 ·exact h.old
 ·exact h.inn
 ·exact h.got
 ·exact h.step
 ·exact h.id
 ·exact h.deg
 ·exact h.all
 ·exact h.weight
theorem i64_tmod {a b:Int} (ha:i64 a):i64 (a.tmod b):=by
 unfold i64 at *
 have h1:(a.tmod b).natAbs≤a.natAbs:=by rw[Int.natAbs_tmod];exact Nat.mod_le _ _
 rcases Int.le_total 0 a with h | h
 ·have h2:0≤a.tmod b:=Int.tmod_nonneg b h
  omega
 ·have h2:a.tmod b≤0:=by
   have h3:0≤(-a).tmod b:=Int.tmod_nonneg b (by omega)
   rw[Int.neg_tmod] at h3
   omega
  omega
theorem i64_min {a b:Int} (ha:i64 a) (hb:i64 b):i64 (min a b):=by
 by_cases h:a≤b
 ·rw[Int.min_eq_left h];exact ha
 ·rw[Int.min_eq_right (by omega)];exact hb
theorem i64_max {a b:Int} (ha:i64 a) (hb:i64 b):i64 (max a b):=by
 by_cases h:a≤b
 ·rw[Int.max_eq_right h];exact hb
 ·rw[Int.max_eq_left (by omega)];exact ha
theorem i64_one (q:Prop) [Decidable q]:i64 (if q then 1 else 0):=by unfold i64;split <;> omega
theorem op2_ok {x:List UInt8} {a b v:Int} (ha:i64 a) (hb:i64 b) (h:op2 x a b=some v):i64 v:=by
 unfold op2 at h
 by_cases c1:x=[43]
 ·rw[if_pos c1] at h;injection h with h;subst h;exact i64_wrap _
 ·rw[if_neg c1] at h
  by_cases c2:x=[45]
  ·rw[if_pos c2] at h;injection h with h;subst h;exact i64_wrap _
  ·rw[if_neg c2] at h
   by_cases c3:x=[42]
   ·rw[if_pos c3] at h;injection h with h;subst h;exact i64_wrap _
   ·rw[if_neg c3] at h
    by_cases c4:x=[47]
    ·rw[if_pos c4] at h
     split at h
     ·cases h
     ·injection h with h;subst h;exact i64_wrap _
    ·rw[if_neg c4] at h
     by_cases c5:x=[37]
     ·rw[if_pos c5] at h
      split at h
      ·cases h
      ·injection h with h;subst h;exact i64_tmod ha
     ·rw[if_neg c5] at h
      by_cases c6:x=[60]
      ·rw[if_pos c6] at h;injection h with h;subst h;exact i64_one _
      ·rw[if_neg c6] at h
       by_cases c7:x=[61]
       ·rw[if_pos c7] at h;injection h with h;subst h;exact i64_one _
       ·rw[if_neg c7] at h
        by_cases c8:x=[109,105,110]
        ·rw[if_pos c8] at h;injection h with h;subst h;exact i64_min ha hb
        ·rw[if_neg c8] at h;injection h with h;subst h;exact i64_max ha hb
def AllOk (T:List Int):Prop := ∀ v ∈ T,i64 v
theorem AllOk.cons {v:Int} {T:List Int} (hv:i64 v) (h:AllOk T):AllOk (v :: T):=fun u hu=>by
 rcases List.mem_cons.1 hu with rfl | hu
 ·exact hv
 ·exact h u hu
theorem AllOk.head {v:Int} {T:List Int} (h:AllOk (v :: T)):i64 v:=h v (List.mem_cons_self ..)
theorem AllOk.tail {v:Int} {T:List Int} (h:AllOk (v :: T)):AllOk T:=fun u hu=>h u (List.mem_cons_of_mem _ hu)
theorem weff_ok {E:Ev} (hE:EvOk E) {x:List UInt8} {T T':List Int} (hx:∀ n,number x=some n→i64 n) (h:AllOk T) (hw:weff E x T=some T'):AllOk T':=by
 unfold weff at hw
 split at hw
 ·rename_i n hn
  injection hw with hw;subst hw
  exact AllOk.cons (hx _ hn) h
 ·split at hw
  ·injection hw with hw;subst hw
   exact AllOk.cons (ldv_ok hE x) h
  ·split at hw
   ·split at hw
    ·obtain⟨v,hv,rfl⟩:=Option.map_eq_some_iff.1 hw
     exact AllOk.cons (op2_ok h.tail.head h.head hv) h.tail.tail
    ·cases hw
   ·split at hw
    ·split at hw
     ·injection hw with hw;subst hw
      exact AllOk.cons h.head h
     ·cases hw
    ·split at hw
     ·split at hw
      ·injection hw with hw;subst hw
       exact h.tail
      ·cases hw
     ·split at hw
      ·split at hw
       ·injection hw with hw;subst hw
        exact AllOk.cons h.tail.head (AllOk.cons h.head h.tail.tail)
       ·cases hw
      ·split at hw
       ·split at hw
        ·injection hw with hw;subst hw
         exact AllOk.cons h.tail.head (AllOk.cons h.head h.tail)
        ·cases hw
       ·split at hw
        ·split at hw
         ·injection hw with hw;subst hw
          refine AllOk.cons ?_ h.tail.tail.tail
          split
          ·exact h.tail.head
          ·exact h.head
         ·cases hw
        ·cases hw
structure VInv (s:Ms):Prop where
 T:AllOk s.T
 lp:∀ q ∈ s.lp,1≤q.1∧q.1≤9223372036854775807
theorem mstep_vinv {L:List (List UInt8)} {E:Ev} (hE:EvOk E) (hx:∀ x n,number x=some n→i64 n) {s t:Ms} (hs:VInv s) (h:mstep L E s=some t):VInv t:=by
 unfold mstep at h
 split at h
 ·cases h
 ·split at h
  ·split at h
   ·cases h
   ·rename_i n T hTT
    have hT:=hs.T
    rw[hTT] at hT
    split at h
    ·injection h with h;subst h
     exact⟨hT.tail,hs.lp⟩
    ·injection h with h;subst h
     refine⟨hT.tail,fun q hq=>?_⟩
     rcases List.mem_cons.1 hq with rfl | hq
     ·exact⟨by simp only;omega,hT.head.2⟩
     ·exact hs.lp q hq
  ·split at h
   ·split at h
    ·cases h
    ·rename_i k a r hlp
     have hl:=hs.lp
     rw[hlp] at hl
     have hk:=hl (k,a) (List.mem_cons_self ..)
     simp only at hk
     split at h
     ·injection h with h;subst h
      refine⟨hs.T,fun q hq=>?_⟩
      rcases List.mem_cons.1 hq with rfl | hq
      ·exact⟨by simp only;omega,by simp only;omega⟩
      ·exact hl q (List.mem_cons_of_mem _ hq)
     ·injection h with h;subst h
      exact⟨hs.T,fun q hq=>hl q (List.mem_cons_of_mem _ hq)⟩
   ·obtain⟨T,hw,h⟩:=Option.map_eq_some_iff.1 h
    subst h
    exact⟨weff_ok hE (hx _) hs.T hw,hs.lp⟩
end Go.Proofs.YteflnddphpjahaaGreatDoor.Sp
