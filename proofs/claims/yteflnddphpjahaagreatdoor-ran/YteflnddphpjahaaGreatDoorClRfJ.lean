import Derived.Test.YteflnddphpjahaaGreatDoorClRsCtoRqN
import Derived.Test.YteflnddphpjahaaGreatDoorClRqFtoRqJ
set_option linter.unusedVariables false
set_option linter.unusedSimpArgs false
set_option maxRecDepth 100000
set_option maxHeartbeats 16000000
namespace Go.Proofs.YteflnddphpjahaaGreatDoor
open Go.RowKit
theorem rcompile_any (s:ByteArray) (w:World):Calls Tryz.prog 54 #[.string s] w (CompPost s w):=by
 by_cases hs:2000 < s.size
 ·exact comp_long s w hs
 ·exact comp_lines s w (by omega)
def nilJ:JV:=⟨0,none,0,none,0,none,0,0,none,0,0,none,0,0,none,0,0,none,0,0,none,0,0,⟨#[]⟩,⟨#[]⟩,0⟩
abbrev nilJA:Array Value := #[.slice none 0 0,.slice none 0 0,.slice none 0 0,.slice none 0 0,.slice none 0 0,.slice none 0 0,.slice none 0 0,.slice none 0 0,.string ⟨#[]⟩,.string ⟨#[]⟩,.int .i64 0]
def set11 (W:World) (R:Nat) (a0 a1 a2 a3 a4 a5 a6 a7 a8 a9 a10:Value):World:=((((((((((W.setCell ⟨R,0,none⟩ a0).setCell ⟨R,1,none⟩ a1).setCell ⟨R,2,none⟩ a2).setCell ⟨R,3,none⟩ a3).setCell ⟨R,4,none⟩ a4).setCell ⟨R,5,none⟩ a5).setCell ⟨R,6,none⟩ a6).setCell ⟨R,7,none⟩ a7).setCell ⟨R,8,none⟩ a8).setCell ⟨R,9,none⟩ a9).setCell ⟨R,10,none⟩ a10
theorem below_set11 {B:Nat} {w W:World} {R:Nat} (h:Below B w W) (hR:B≤R) (a0 a1 a2 a3 a4 a5 a6 a7 a8 a9 a10:Value):Below B w (set11 W R a0 a1 a2 a3 a4 a5 a6 a7 a8 a9 a10):=
 ((((((((((h.setCell (p:=⟨R,0,none⟩) hR _).setCell (p:=⟨R,1,none⟩) hR _).setCell (p:=⟨R,2,none⟩) hR _).setCell (p:=⟨R,3,none⟩) hR _).setCell (p:=⟨R,4,none⟩) hR _).setCell (p:=⟨R,5,none⟩) hR _).setCell (p:=⟨R,6,none⟩) hR _).setCell (p:=⟨R,7,none⟩) hR _).setCell (p:=⟨R,8,none⟩) hR _).setCell (p:=⟨R,9,none⟩) hR _).setCell (p:=⟨R,10,none⟩) hR _
theorem own_set11 {W:World} {R B t size n:Nat} {v:Value} {xs:List Value} (h:W.ownsRow B t size v n xs) (hR:R < B) (a0 a1 a2 a3 a4 a5 a6 a7 a8 a9 a10:Value):(set11 W R a0 a1 a2 a3 a4 a5 a6 a7 a8 a9 a10).ownsRow B t size v n xs:=by
 have o:∀ {W:World} (j:Nat) (u:Value),W.ownsRow B t size v n xs→(W.setCell ⟨R,j,none⟩ u).ownsRow B t size v n xs:=fun j u h=>ownsRow_setCell_below h (a:=⟨R,j,none⟩) hR u
 exact o 10 _ (o 9 _ (o 8 _ (o 7 _ (o 6 _ (o 5 _ (o 4 _ (o 3 _ (o 2 _ (o 1 _ (o 0 _ h))))))))))
theorem cell_set11 {W:World} {R:Nat} (a0 a1 a2 a3 a4 a5 a6 a7 a8 a9 a10:Value) {g i:Nat} (h:g≠R):(set11 W R a0 a1 a2 a3 a4 a5 a6 a7 a8 a9 a10).cell? ⟨g,i,none⟩=W.cell? ⟨g,i,none⟩:=by
 have o:∀ (W:World) (j:Nat) (u:Value),(W.setCell ⟨R,j,none⟩ u).cell? ⟨g,i,none⟩=W.cell? ⟨g,i,none⟩:=fun W j u=>cellb_other (Ne.symm h)
 unfold set11
 rw[o,o,o,o,o,o,o,o,o,o,o]
theorem set11_blk {w:World} {R:Nat} {t:Nat} (h:w.heap[R]? = some (.cells nilJA t (0,0))) (a0 a1 a2 a3 a4 a5 a6 a7 a8 a9 a10:Value):(set11 w R a0 a1 a2 a3 a4 a5 a6 a7 a8 a9 a10).heap[R]? = some (.cells #[a0,a1,a2,a3,a4,a5,a6,a7,a8,a9,a10] t (0,0)):=by
 have h1:=blk_set (i:=10) (blk_set (i:=9) (blk_set (i:=8) (blk_set (i:=7) (blk_set (i:=6) (blk_set (i:=5) (blk_set (i:=4) (blk_set (i:=3) (blk_set (i:=2) (blk_set (i:=1) (blk_set (i:=0) h a0) a1) a2) a3) a4) a5) a6) a7) a8) a9) a10
 unfold set11
 simpa using h1
theorem size_set11 (W:World) (R:Nat) (a0 a1 a2 a3 a4 a5 a6 a7 a8 a9 a10:Value):(set11 W R a0 a1 a2 a3 a4 a5 a6 a7 a8 a9 a10).heap.size=W.heap.size:=by
 unfold set11;simp[World.setCell]
theorem nilJ_str:(k:Nat)→(b:ByteArray)→nilJA[k]? = some (.string b)→b=⟨#[]⟩
 | 0,b,h=>by cases h
 | 1,b,h=>by cases h
 | 2,b,h=>by cases h
 | 3,b,h=>by cases h
 | 4,b,h=>by cases h
 | 5,b,h=>by cases h
 | 6,b,h=>by cases h
 | 7,b,h=>by cases h
 | 8,b,h=>by injection h with h;injection h with h;exact h.symm
 | 9,b,h=>by injection h with h;injection h with h;exact h.symm
 | 10,b,h=>by cases h
 | n+11,b,h=>by rw[Array.getElem?_eq_none (by simp)] at h;cases h
theorem CodeR.other {w W:World} {R l:Nat} {p:Option Addr} {L:List (List UInt8)} {t:TypeId} (h:CodeR w p l L) (hb:w.heap[R]? = some (.cells nilJA t (0,0))) (hW:∀ g i,g≠R→W.cell? ⟨g,i,none⟩=w.cell? ⟨g,i,none⟩) (hz:w.heap.size≤W.heap.size):CodeR W p l L:=by
 obtain⟨X,h1,h2,h3,h4⟩:=h
 refine⟨X,h1,h2,fun j hj=>?_,h4⟩
 obtain⟨g,off,e,q1,q2⟩:=h3 j hj
 have hne:g≠R:=by
  rintro rfl
  have q3:nilJA[off+j]? = some (.string X[j]):=by
   rw[← q2];exact(cell_of_row w g (off+j) _ t (0,0) hb).symm
  have q4:=nilJ_str _ _ q3
  obtain⟨n,m,q5⟩:=h4.all j hj
  have q6:(lst X).getD j []=[]:=by
   unfold lst
   rw[List.getD_eq_getElem?_getD,List.getElem?_map,List.getElem?_eq_getElem hj,q4];rfl
  have q7:Sp.tk true []=none:=by decide
  rw[q6,q7] at q5
  cases q5
 exact⟨g,off,e,Nat.lt_of_lt_of_le q1 hz,(hW g _ hne).trans q2⟩
def AskPost (g p:ByteArray) (limit:Int) (w:World) (e:Ending) (w':World):Prop :=
 Below w.heap.size w w'∧∃ j,e = .returned (.tuple #[.agg (jobA j),.int .i64 (askE g p limit)])∧(askE g p limit=0→JobR w' j (Sp.pgOf p) (vls g) (els g)∧(j.cap:Int)=limit)
theorem ask_err {g p:ByteArray} {limit:Int} {w w':World} {a:Int} (h:askE g p limit=a) (ha:a≠0) (hb:Below w.heap.size w w'):AskPost g p limit w (.returned (.tuple #[.agg nilJA,.int .i64 a])) w' :=
 ⟨hb,nilJ,by rw[h];rfl,fun h0=>absurd (h ▸ h0) ha⟩
theorem blk11_cell {w:World} {G:Nat} {c0 c1 c2 c3 c4 c5 c6 c7 c8 c9 c10:Value} {t:Nat} (h:w.heap[G]? = some (.cells #[c0,c1,c2,c3,c4,c5,c6,c7,c8,c9,c10] t (0,0))) :
  w.cell? ⟨G,0,none⟩=some c0∧w.cell? ⟨G,1,none⟩=some c1∧w.cell? ⟨G,2,none⟩=some c2∧w.cell? ⟨G,3,none⟩=some c3∧w.cell? ⟨G,4,none⟩=some c4∧w.cell? ⟨G,5,none⟩=some c5∧w.cell? ⟨G,6,none⟩=some c6∧w.cell? ⟨G,7,none⟩=some c7∧w.cell? ⟨G,8,none⟩=some c8∧w.cell? ⟨G,9,none⟩=some c9∧w.cell? ⟨G,10,none⟩=some c10∧∀ j,w.frozen? ⟨G,j,none⟩=false :=
 ⟨by simp[World.cell?,h],by simp[World.cell?,h],by simp[World.cell?,h],by simp[World.cell?,h],by simp[World.cell?,h],by simp[World.cell?,h],by simp[World.cell?,h],by simp[World.cell?,h],by simp[World.cell?,h],by simp[World.cell?,h],by simp[World.cell?,h],fun j=>by simp[World.frozen?,h]⟩
theorem rasked_any (g p:ByteArray) (limit:Int) (w:World) (hg:g.size≤maxLen) (hsm:Small g):Calls Tryz.prog 29 #[.string g,.string p,.int .i64 limit] w (AskPost g p limit w):=by
 generalize hO:AskPost g p limit w=O
 replace hO:=hde hO
 have HSM:=hde hsm
 have hb0:Below w.heap.size w (w.alloc (.cells nilJA 109)):=(Below.refl _ _).alloc nlr _
 have hR0:=heap_alloc_new w (.cells nilJA 109)
 have hz0:=World.size_alloc w (.cells nilJA 109)
 unfold nilJA at hb0 hR0 hz0
 go_enter Tryz.func29,Tryz.ntmps29
 go_wp2_with fail
 generalize hW:World.alloc _ _=W0 at *
 refine(refParse_any g _ hg).mono ?_
 rintro e w1 hp1
 obtain⟨hb1,v,u,x,rfl,o0,o1,o2⟩:=parse_form hp1
 obtain⟨p0,k0,rfl,i0⟩:=ints_of_own o0
 obtain⟨p1,k1,rfl,i1⟩:=ints_of_own o1
 obtain⟨p2,k2,rfl,i2⟩:=edges_of_own o2
 rw[nls_len]
 have HO1:=hde o1
 have HO2:=hde o2
 obtain⟨ea,HEA⟩:∃ ea,Hid (eno g=ea):=⟨_,rfl⟩
 obtain⟨eb,HEB⟩:∃ eb,Hid (eat g=eb):=⟨_,rfl⟩
 obtain⟨n,HNV⟩:∃ n,Hid ((vls g).length=n):=⟨_,rfl⟩
 obtain⟨ne,HNE⟩:∃ ne,Hid ((els g).length=ne):=⟨_,rfl⟩
 rw[uh HEA,uh HEB,uh HNV,uh HNE]
 have hbw1:Below w.heap.size w w1:=hb0.trans (hb1.mono hb0.size)
 have hR1:=(hb1.block w.heap.size (by omega)).trans hR0
 have hz1:=hb1.size
 clear hp1 o0 o1 o2 i0 i1 i2 hW hR0 hb1
 unfold graphVal
 by_cases c1:ea=0
 ·subst c1
  go_wp2_with fail
  generalize hW1:World.alloc _ _=W1
  have hbA:Below w1.heap.size w1 W1:=by rw[← hW1];exact(Below.refl _ _).alloc nlr _
  have hG1:W1.heap[w1.heap.size]? = some (.cells #[.slice p0 n k0,.slice p1 n k1,.slice p2 ne k2] 79 (0,0)):=by rw[← hW1];exact heap_alloc_new w1 _
  clear hW1
  refine(rcompile_any p W1).mono ?_
  rintro e w2 ⟨hb2,q0,n0,j0,q1,n1,j1,q2,n2,j2,q3,n3,j3,q4,n4,j4,b5,b6,rfl,hws⟩
  have HWS:=hde hws
  obtain⟨ca,HCA⟩:∃ ca,Hid ((Sp.comp p).1=ca):=⟨_,rfl⟩
  obtain⟨cb,HCB⟩:∃ cb,Hid ((Sp.comp p).2=cb):=⟨_,rfl⟩
  rw[uh HCA,uh HCB]
  unfold progV
  have hb12:Below w1.heap.size w1 w2:=hbA.trans (hb2.mono hbA.size)
  have hbw2:Below w.heap.size w w2:=hbw1.trans (hb12.mono hbw1.size)
  have hG2:=(hb2.block w1.heap.size (Array.getElem?_eq_some_iff.1 hG1).1).trans hG1
  have hR2:=(hb12.block w.heap.size (by omega)).trans hR1
  have hz2:=hb12.size
  have hGl:=(Array.getElem?_eq_some_iff.1 hG2).1
  have HO12:=hde (obl (uh HO1) hb12)
  have HO22:=hde (obl (uh HO2) hb12)
  have HR2:=hde hR2
  obtain⟨r0,r1,r2,r3,r4,r5,r6,r7,r8,r9,r10,rf⟩:=blk11_cell hR2
  have f0:=rf 0
  have f1:=rf 1
  have f2:=rf 2
  have f3:=rf 3
  have f4:=rf 4
  have f5:=rf 5
  have f6:=rf 6
  have f7:=rf 7
  have f8:=rf 8
  have f9:=rf 9
  have f10:=rf 10
  have g0:w2.cell? ⟨w1.heap.size,0,none⟩=some (.slice p0 n k0):=by simp[World.cell?,hG2]
  have g1:w2.cell? ⟨w1.heap.size,1,none⟩=some (.slice p1 n k1):=by simp[World.cell?,hG2]
  have g2:w2.cell? ⟨w1.heap.size,2,none⟩=some (.slice p2 ne k2):=by simp[World.cell?,hG2]
  have hHl:w.heap.size < w2.heap.size:=by omega
  have HXC:=hde (fun a0 a1 a2 a3 a4 a5 a6 a7 a8 a9 a10 o i=>cells_alloc (set11_blk hR2 a0 a1 a2 a3 a4 a5 a6 a7 a8 a9 a10) o i)
  unfold set11 at HXC
  have HBX:Hid (∀ o a0 a1 a2 a3 a4 a5 a6 a7 a8 a9 a10,Below w.heap.size w ((set11 w2 w.heap.size a0 a1 a2 a3 a4 a5 a6 a7 a8 a9 a10).alloc o)):=fun o a0 a1 a2 a3 a4 a5 a6 a7 a8 a9 a10=>by have h:=below_set11 hbw2 (Nat.le_refl w.heap.size) a0 a1 a2 a3 a4 a5 a6 a7 a8 a9 a10;exact h.alloc h.size o
  clear hb2 hb12 hbA hG1 hG2 hR1 hR2 rf hws HO1 HO2
  by_cases c2:ca=0
  ·subst c2
   by_cases c3:limit < 0∨200 < limit
   ·have HE:Hid (askE g p limit=8):=by show _=_;unfold askE;rw[if_neg (by rw[uh HEA];simp),if_neg (by rw[uh HCA];simp),if_pos c3]
    by_cases c4:limit < 0
    ·clear c3
     go_wp2
     refine bodyPost_ret (v := .tuple #[.agg nilJA,.int .i64 8]) (by simp[results,Tryz.results29,go_sem,uh HXC]) rfl ?_
     rw[← uh hO]
     exact ask_err (uh HE) (by decide) (uh HBX _ _ _ _ _ _ _ _ _ _ _ _)
    ·have c5:200 < limit:=by omega
     clear c3
     go_wp2
     refine bodyPost_ret (v := .tuple #[.agg nilJA,.int .i64 8]) (by simp[results,Tryz.results29,go_sem,uh HXC]) rfl ?_
     rw[← uh hO]
     exact ask_err (uh HE) (by decide) (uh HBX _ _ _ _ _ _ _ _ _ _ _ _)
   ·have c4:¬ limit < 0:=by omega
    have c5:¬ 200 < limit:=by omega
    have HE:Hid (askE g p limit=0):=by show _=_;unfold askE;rw[if_neg (by rw[uh HEA];simp),if_neg (by rw[uh HCA];simp),if_neg c3]
    obtain⟨cap,rfl⟩:∃ cap:Nat,limit=(cap:Int):=⟨limit.toNat,by omega⟩
    have hcap:cap≤200:=by omega
    clear c3
    have HFN:Hid (O (.returned (.tuple #[.agg #[.slice p0 n k0,.slice p1 n k1,.slice p2 ne k2,.slice q0 n0 j0,.slice q1 n1 j1,.slice q2 n2 j2,.slice q3 n3 j3,.slice q4 n4 j4,.string b5,.string b6,.int .i64 cap],.int .i64 0])) ((set11 w2 w.heap.size (.slice p0 n k0) (.slice p1 n k1) (.slice p2 ne k2) (.slice q0 n0 j0) (.slice q1 n1 j1) (.slice q2 n2 j2) (.slice q3 n3 j3) (.slice q4 n4 j4) (.string b5) (.string b6) (.int .i64 cap)).alloc (.cells #[.slice q0 n0 j0,.slice q1 n1 j1,.slice q2 n2 j2,.slice q3 n3 j3,.slice q4 n4 j4,.string b5,.string b6] 107))):=by
     show O _ _
     rw[← uh hO]
     refine⟨uh HBX _ _ _ _ _ _ _ _ _ _ _ _,⟨n,p0,k0,p1,k1,p2,ne,k2,q0,n0,j0,q1,n1,j1,q2,n2,j2,q3,n3,j3,q4,n4,j4,b5,b6,cap⟩,by rw[uh HE];rfl,fun _=>⟨?_,rfl⟩⟩
     obtain⟨x0,x1,x2,x3,x4,x5,x6⟩:=words_of (uh HCA) ((uh HWS) (uh HCA))
     obtain⟨y1,y2⟩:=job_ok (uh HEA) (uh HCA) (uh HSM)
     have hcl:∀ g i,g≠w.heap.size→(set11 w2 w.heap.size (.slice p0 n k0) (.slice p1 n k1) (.slice p2 ne k2) (.slice q0 n0 j0) (.slice q1 n1 j1) (.slice q2 n2 j2) (.slice q3 n3 j3) (.slice q4 n4 j4) (.string b5) (.string b6) (.int .i64 cap)).cell? ⟨g,i,none⟩=w2.cell? ⟨g,i,none⟩:=fun g i h=>cell_set11 _ _ _ _ _ _ _ _ _ _ _ h
     have hsz:=Nat.le_of_eq (size_set11 w2 w.heap.size (.slice p0 n k0) (.slice p1 n k1) (.slice p2 ne k2) (.slice q0 n0 j0) (.slice q1 n1 j1) (.slice q2 n2 j2) (.slice q3 n3 j3) (.slice q4 n4 j4) (.string b5) (.string b6) (.int .i64 cap)).symm
     have hAl:Below (set11 w2 w.heap.size (.slice p0 n k0) (.slice p1 n k1) (.slice p2 ne k2) (.slice q0 n0 j0) (.slice q1 n1 j1) (.slice q2 n2 j2) (.slice q3 n3 j3) (.slice q4 n4 j4) (.string b5) (.string b6) (.int .i64 cap)).heap.size (set11 w2 w.heap.size (.slice p0 n k0) (.slice p1 n k1) (.slice p2 ne k2) (.slice q0 n0 j0) (.slice q1 n1 j1) (.slice q2 n2 j2) (.slice q3 n3 j3) (.slice q4 n4 j4) (.string b5) (.string b6) (.int .i64 cap)) ((set11 w2 w.heap.size (.slice p0 n k0) (.slice p1 n k1) (.slice p2 ne k2) (.slice q0 n0 j0) (.slice q1 n1 j1) (.slice q2 n2 j2) (.slice q3 n3 j3) (.slice q4 n4 j4) (.string b5) (.string b6) (.int .i64 cap)).alloc (.cells #[.slice q0 n0 j0,.slice q1 n1 j1,.slice q2 n2 j2,.slice q3 n3 j3,.slice q4 n4 j4,.string b5,.string b6] 107)):=(Below.refl _ _).alloc nlr _
     have hRA:=uh HR2
     have z1:=(own_set11 (uh HO12) (R:=w.heap.size) (by omega) (.slice p0 n k0) (.slice p1 n k1) (.slice p2 ne k2) (.slice q0 n0 j0) (.slice q1 n1 j1) (.slice q2 n2 j2) (.slice q3 n3 j3) (.slice q4 n4 j4) (.string b5) (.string b6) (.int .i64 cap)).alloc (.cells #[.slice q0 n0 j0,.slice q1 n1 j1,.slice q2 n2 j2,.slice q3 n3 j3,.slice q4 n4 j4,.string b5,.string b6] 107)
     have z2:=(own_set11 (uh HO22) (R:=w.heap.size) (by omega) (.slice p0 n k0) (.slice p1 n k1) (.slice p2 ne k2) (.slice q0 n0 j0) (.slice q1 n1 j1) (.slice q2 n2 j2) (.slice q3 n3 j3) (.slice q4 n4 j4) (.string b5) (.string b6) (.int .i64 cap)).alloc (.cells #[.slice q0 n0 j0,.slice q1 n1 j1,.slice q2 n2 j2,.slice q3 n3 j3,.slice q4 n4 j4,.string b5,.string b6] 107)
     obtain⟨pp1,kk1,ee1,ii1⟩:=ints_of_own z1
     obtain⟨pp2,kk2,ee2,ii2⟩:=edges_of_own z2
     injection ee1 with ee1 _ _
     injection ee2 with ee2 _ _
     subst ee1 ee2
     exact⟨(uh HNV).symm,ii1,(uh HNE).symm,ii2,(x0.other hRA hcl hsz).below hAl,(x1.other hRA hcl hsz).below hAl,(x2.other hRA hcl hsz).below hAl,(x3.other hRA hcl hsz).below hAl,(x4.other hRA hcl hsz).below hAl,x5,x6,hcap,y1,y2⟩
    go_wp2
    exact bodyPost_ret (v := .tuple #[.agg #[.slice p0 n k0,.slice p1 n k1,.slice p2 ne k2,.slice q0 n0 j0,.slice q1 n1 j1,.slice q2 n2 j2,.slice q3 n3 j3,.slice q4 n4 j4,.string b5,.string b6,.int .i64 cap],.int .i64 0]) (by simp[results,Tryz.results29,go_sem,uh HXC]) rfl (uh HFN)
  ·have c2b:(ca != 0)=true:=by rw[bne_iff_ne];exact c2
   have HE:Hid (askE g p limit=ca):=by show _=_;unfold askE;rw[if_neg (by rw[uh HEA];simp),if_pos (by rw[uh HCA];exact c2),uh HCA]
   have HC2:=hde c2
   clear c2
   go_wp2
   refine bodyPost_ret (v := .tuple #[.agg nilJA,.int .i64 ca]) (by simp[results,Tryz.results29,go_sem,uh HXC]) rfl ?_
   rw[← uh hO]
   exact ask_err (uh HE) (uh HC2) (uh HBX _ _ _ _ _ _ _ _ _ _ _ _)
 ·have c1b:(ea != 0)=true:=by rw[bne_iff_ne];exact c1
  have HE:Hid (askE g p limit=ea):=by show _=_;unfold askE;rw[if_pos (by rw[uh HEA];exact c1),uh HEA]
  have HC1:=hde c1
  obtain⟨r0,r1,r2,r3,r4,r5,r6,r7,r8,r9,r10,rf⟩:=blk11_cell hR1
  have f0:=rf 0
  have f1:=rf 1
  have f2:=rf 2
  have f3:=rf 3
  have f4:=rf 4
  have f5:=rf 5
  have f6:=rf 6
  have f7:=rf 7
  have f8:=rf 8
  have f9:=rf 9
  have f10:=rf 10
  have hHl:w.heap.size < w1.heap.size:=by omega
  have HXC:=hde (fun a0 a1 a2 a3 a4 a5 a6 a7 a8 a9 a10 o i=>cells_alloc (set11_blk hR1 a0 a1 a2 a3 a4 a5 a6 a7 a8 a9 a10) o i)
  unfold set11 at HXC
  have HBX:Hid (∀ o a0 a1 a2 a3 a4 a5 a6 a7 a8 a9 a10,Below w.heap.size w ((set11 w1 w.heap.size a0 a1 a2 a3 a4 a5 a6 a7 a8 a9 a10).alloc o)):=fun o a0 a1 a2 a3 a4 a5 a6 a7 a8 a9 a10=>by have h:=below_set11 hbw1 (Nat.le_refl w.heap.size) a0 a1 a2 a3 a4 a5 a6 a7 a8 a9 a10;exact h.alloc h.size o
  clear c1 hR1 rf
  go_wp2
  refine bodyPost_ret (v := .tuple #[.agg nilJA,.int .i64 ea]) (by simp[results,Tryz.results29,go_sem,uh HXC]) rfl ?_
  rw[← uh hO]
  exact ask_err (uh HE) (uh HC1) (uh HBX _ _ _ _ _ _ _ _ _ _ _ _)
end Go.Proofs.YteflnddphpjahaaGreatDoor
