import Derived.Test.YteflnddphpjahaaGreatDoorCmEvEtoMkA
import Derived.Test.YteflnddphpjahaaGreatDoorCmSrtLtoRsA
import Derived.Test.YteflnddphpjahaaGreatDoorCmSameAtoLineD
import Derived.Lib.OthersKept
import Derived.WalkSmall
import Derived.Deep.DeepMust
import Derived.Test.YteflnddphpjahaaGreatDoorCmRefI
set_option linter.unusedVariables false
set_option linter.unusedSimpArgs false
set_option maxRecDepth 100000
set_option maxHeartbeats 16000000
namespace Go.Proofs.YteflnddphpjahaaGreatDoor
open Go.RowKit Go.Shelf
attribute [local go_sem] Oper.semAt_some
structure G2 (w:World) (G:Nat) (v u x:Value) (T:List (Int × Int)):Prop where
 lt:G < w.heap.size
 blk:w.heap[G]? = some (.cells #[v,u,x] 79 (0,0))
 r0:w.ownsRow (G+1) 21 1 v T.length (T.map fun p=>Value.int .i32 p.1)
 r1:w.ownsRow (G+1) 2 1 u T.length (T.map fun p=>Value.int .i64 p.2)
theorem blk3_cell {w:World} {G:Nat} {v u x:Value} {t:Nat} (h:w.heap[G]? = some (.cells #[v,u,x] t (0,0))):w.cell? ⟨G,0,none⟩=some v∧w.cell? ⟨G,1,none⟩=some u∧w.cell? ⟨G,2,none⟩=some x∧∀ j,w.frozen? ⟨G,j,none⟩=false:=by
 refine⟨by simp[World.cell?,h],by simp[World.cell?,h],by simp[World.cell?,h],fun j=>by simp[World.frozen?,h]⟩
theorem blk3_set0 {w:World} {G:Nat} {v u x:Value} {t:Nat} (h:w.heap[G]? = some (.cells #[v,u,x] t (0,0))) (v':Value):(w.setCell ⟨G,0,none⟩ v').heap[G]? = some (.cells #[v',u,x] t (0,0)):=by
 obtain⟨hlt,hk⟩:=Array.getElem?_eq_some_iff.1 h
 show (w.heap.modify G _)[G]? = _
 rw[Array.getElem?_eq_getElem (by rw[Array.size_modify];exact hlt),Array.getElem_modify_self,hk]
 rfl
theorem blk3_set1 {w:World} {G:Nat} {v u x:Value} {t:Nat} (h:w.heap[G]? = some (.cells #[v,u,x] t (0,0))) (v':Value):(w.setCell ⟨G,1,none⟩ v').heap[G]? = some (.cells #[v,v',x] t (0,0)):=by
 obtain⟨hlt,hk⟩:=Array.getElem?_eq_some_iff.1 h
 show (w.heap.modify G _)[G]? = _
 rw[Array.getElem?_eq_getElem (by rw[Array.size_modify];exact hlt),Array.getElem_modify_self,hk]
 rfl
theorem own_not_cells {X Y:World} {row:Option Nat} {base e size k:Nat} {v:Value} {xs:List Value} (hr:X.ownsRow base e size v k xs) (hg:X.grownBy Y row) (hrow:∀ r,row=some r→∃ o:Obj,X.heap[r]? = some o∧o.isCells=false):Y.ownsRow base e size v k xs:=by
 refine hr.kept hg ?_
 rcases hr.2 with ⟨rfl,_⟩ | ⟨g,cap,cur,rfl,_,hgb,_⟩
 ·exact .inl rfl
 ·refine .inr fun e'=>?_
  obtain⟨o,ho,hc⟩:=hrow g (by simpa [Value.ownBlock] using e'.symm)
  rw[hgb] at ho;cases ho;cases hc
theorem G2.turn {X Y:World} {row:Option Nat} {G:Nat} {v u x:Value} {T:List (Int × Int)} (h:G2 X G v u x T) (hg:X.grownBy Y row) (hrow:∀ r,row=some r→∃ o:Obj,X.heap[r]? = some o∧o.isCells=false):G2 Y G v u x T:=by
 have hne:some G≠row:=fun e=>by obtain⟨o,ho,hc⟩:=hrow G e.symm;rw[h.blk] at ho;cases ho;cases hc
 exact⟨Nat.lt_of_lt_of_le h.lt hg.size,(hg.block G h.lt hne).trans h.blk,own_not_cells h.r0 hg hrow,own_not_cells h.r1 hg hrow⟩
theorem G2.own (G:Nat) (x:Value):Own (fun (T:List (Int × Int)) W=>∃ v u,G2 W G v u x T):=by
 rintro s X Y row ⟨v,u,h⟩ hg hrow
 exact⟨v,u,h.turn hg hrow⟩
theorem own_not {w:World} {G B e size n:Nat} {v:Value} {xs:List Value} (h:w.ownsRow B e size v n xs) (hG:G < B):some G≠v.ownBlock:=fun e=>by have:=(h.lt G e.symm).1;omega
theorem G2.half {w w1:World} {G:Nat} {v v' u x:Value} {T:List (Int × Int)} {a:Int} {o:Obj} (h:G2 w G v u x T)
  (ho:w1.ownsRow (G+1) 21 1 v' (T.length+1) ((T.map fun p=>Value.int .i32 p.1)++[.int .i32 a])) (hg:(w.alloc o).grownBy w1 v.ownBlock) :
  w1.heap[G]? = some (.cells #[v,u,x] 79 (0,0))∧(w1.setCell ⟨G,0,none⟩ v').heap[G]? = some (.cells #[v',u,x] 79 (0,0)) ∧
  (w1.setCell ⟨G,0,none⟩ v').ownsRow (G+1) 21 1 v' (T.length+1) ((T.map fun p=>Value.int .i32 p.1)++[.int .i32 a]) ∧
  (w1.setCell ⟨G,0,none⟩ v').ownsRow (G+1) 2 1 u T.length (T.map fun p=>Value.int .i64 p.2)∧G < w1.heap.size∧w.heap.size+1≤w1.heap.size:=by
 have hl:=h.lt
 have hs:=hg.size
 simp at hs
 have b1:w1.heap[G]? = some (.cells #[v,u,x] 79 (0,0)):=(hg.block G (by simp;omega) (own_not h.r0 (by omega))).trans ((Below.heap_alloc w o G hl).trans h.blk)
 exact⟨b1,blk3_set0 b1 v',ownsRow_setCell_below ho (by show G < G+1;omega) _,ownsRow_setCell_below (own_app (h.r0.alloc o) (h.r1.alloc o) (by decide) hg) (by show G < G+1;omega) _,by omega,hs⟩
theorem G2.full {w w1:World} {G:Nat} {v u u' x:Value} {T:List (Int × Int)} {p:Int × Int} {o:Obj} (hl:G < w.heap.size) (hb:w.heap[G]? = some (.cells #[v,u,x] 79 (0,0)))
  (h0:w.ownsRow (G+1) 21 1 v (T.length+1) ((T.map fun p=>Value.int .i32 p.1)++[.int .i32 p.1])) (h1:w.ownsRow (G+1) 2 1 u T.length (T.map fun p=>Value.int .i64 p.2))
  (ho:w1.ownsRow (G+1) 2 1 u' (T.length+1) ((T.map fun p=>Value.int .i64 p.2)++[.int .i64 p.2])) (hg:(w.alloc o).grownBy w1 u.ownBlock) :
  w1.heap[G]? = some (.cells #[v,u,x] 79 (0,0))∧G2 (w1.setCell ⟨G,1,none⟩ u') G v u' x (T++[p]):=by
 have hs:=hg.size
 simp at hs
 have b1:w1.heap[G]? = some (.cells #[v,u,x] 79 (0,0)):=(hg.block G (by simp;omega) (own_not h1 (by omega))).trans ((Below.heap_alloc w o G hl).trans hb)
 refine⟨b1,⟨by simp[World.setCell];omega,blk3_set1 b1 u',?_,?_⟩⟩
 ·have:=ownsRow_setCell_below (own_app (h1.alloc o) (h0.alloc o) (by decide) hg) (by show G < G+1;omega) (a:=⟨G,1,none⟩) u'
  simpa using this
 ·have:=ownsRow_setCell_below ho (by show G < G+1;omega) (a:=⟨G,1,none⟩) u'
  simpa using this
theorem below_ap {w0 w w1:World} {G e size n:Nat} {v:Value} {xs:List Value} {o:Obj} (hb:Below G w0 w) (hl:G < w.heap.size) (ho:w.ownsRow (G+1) e size v n xs) (hg:(w.alloc o).grownBy w1 v.ownBlock) (j:Nat) (u:Value):Below G w0 (w1.setCell ⟨G,j,none⟩ u):=
 ((hb.alloc (by omega) o).grown hg (by simp;omega) (fun k hk=>by have:=(ho.lt k hk).1;omega)).setCell nlr _
theorem keeps_ap {w w1:World} {base e size n:Nat} {v:Value} {xs:List Value} {o:Obj} (ho:w.ownsRow base e size v n xs) (hg:(w.alloc o).grownBy w1 v.ownBlock) (a:Addr) (u:Value):KeepsOthers w (w1.setCell a u):=by
 refine((KeepsOthers.alloc w o).trans (KeepsOthers.of_grownBy hg fun j o' ej hj=>?_)).trans (KeepsOthers.setCell _ _ _)
 rcases(ho.alloc o).2 with ⟨rfl,_⟩ | ⟨g,cap,cur,rfl,_,hgb,_⟩
 ·simp[Value.ownBlock] at ej
 ·obtain rfl:g=j:=by simpa [Value.ownBlock] using ej
  rw[hgb] at hj;cases hj;rfl
theorem one_new_set (w:World) (a:Addr) (v x:Value) (t:Nat):∀ j u,[x][j]? = some u→((w.setCell a v).alloc (.cells #[x] t)).cell? ((⟨w.heap.size,0,none⟩:Addr).add j)=some u:=by
 have h:=cell_one_new (w.setCell a v) x t
 have hz:(w.setCell a v).heap.size=w.heap.size:=by simp[World.setCell]
 rw[hz] at h
 exact h
theorem blk3_set2 {w:World} {G:Nat} {v u x:Value} {t:Nat} (h:w.heap[G]? = some (.cells #[v,u,x] t (0,0))) (v':Value):(w.setCell ⟨G,2,none⟩ v').heap[G]? = some (.cells #[v,u,v'] t (0,0)):=by
 obtain⟨hlt,hk⟩:=Array.getElem?_eq_some_iff.1 h
 show (w.heap.modify G _)[G]? = _
 rw[Array.getElem?_eq_getElem (by rw[Array.size_modify];exact hlt),Array.getElem_modify_self,hk]
 rfl
theorem grown_setCell (w:World) (G j:Nat) (v:Value):w.grownBy (w.setCell ⟨G,j,none⟩ v) (some G):=
 ⟨rfl,rfl,rfl,by simp[World.setCell],fun k _ hk=>Below.heap_setCell _ _ _ k (fun e=>hk (by rw[e]))⟩
theorem own_base {w:World} {B B' e size n:Nat} {v:Value} {xs:List Value} (h:w.ownsRow B' e size v n xs) (hB:B≤B'):w.ownsRow B e size v n xs:=by
 obtain⟨h1,h2⟩:=h
 refine⟨h1,?_⟩
 rcases h2 with h2 | ⟨g,cap,cur,hv,hg,r⟩
 ·exact .inl h2
 ·exact .inr ⟨g,cap,cur,hv,Nat.le_trans hB hg,r⟩
def set3 (w:World) (R:Nat) (v u x:Value):World:=((w.setCell ⟨R,0,none⟩ v).setCell ⟨R,1,none⟩ u).setCell ⟨R,2,none⟩ x
theorem set3_grown (w:World) (R:Nat) (v u x:Value):w.grownBy (set3 w R v u x) (some R):=
 grown_trans (grown_trans (grown_setCell _ _ _ _) (grown_setCell _ _ _ _)) (grown_setCell _ _ _ _)
theorem set3_blk {w:World} {R:Nat} {a b c:Value} {t:Nat} (h:w.heap[R]? = some (.cells #[a,b,c] t (0,0))) (v u x:Value):(set3 w R v u x).heap[R]? = some (.cells #[v,u,x] t (0,0)):=
 blk3_set2 (blk3_set1 (blk3_set0 h v) u) x
theorem makeGraph_any (t B Bt:Nat) (x:Value) (T:Sp.Tb) (E:List Sp.Ed) (w:World) (hT:TabAt w Bt t T) (hTl:T.length≤5000) (hE:w.ownsRow B 67 3 x E.length (edCells E)) (hEl:E.length≤5000) (hB:B≤w.heap.size) :
  Calls Tryz.prog 66 #[.pointer (some ⟨t,0,none⟩),x] w fun e w'=>∃ v u Y,e = .returned (graphVal v u x)∧w'.ownsRow B 21 1 v T.length (T.map fun p=>Value.int .i32 p.1)∧w'.ownsRow B 2 1 u T.length (T.map fun p=>Value.int .i64 p.2) ∧
   w'.ownsRow B 67 3 x E.length (edCells Y)∧St E Y∧Ord Y 0 E.length∧Below B w w':=by
 obtain⟨tv,htb,hto⟩:=hT
 obtain⟨p,cap,rfl,hents⟩:=ents_of_own hto
 obtain⟨xp,xc,rfl,_⟩:=osl hE
 obtain⟨i0,hi0,hz0,hz1,hz2⟩:=info_parts Tryz.info_i32
 obtain⟨i1,hi1,hy0,hy1,hy2⟩:=info_parts Tryz.info_i64
 refine(callsIn_wide (n:=5)).1 ?_
 refine callsIn_of_wp_marks Tryz.func66 rfl trivial ?_ rfl
 simp only[Tryz.ntmps66,List.size_toArray,List.length_cons,List.length_nil,Nat.reduceAdd,Nat.reduceSub,Array.replicate_succ,Array.replicate_zero,List.push_toArray,List.append_toArray,List.nil_append,List.cons_append]
 gi_wp2_with (refine⟨trivial,?_⟩;gi_at_call 116;refine(all_in _ _ trivial rfl _ _).mono ?_;rintro e w' ⟨rfl,rfl⟩)
 obtain⟨W0,hW0⟩:∃ W0,(((w.alloc (.cells #[.slice none 0 0,.slice none 0 0,.slice none 0 0] 79)).alloc (.cells #[.slice none 0 0,.slice none 0 0,.slice xp E.length xc] 79)).alloc (.cells #[.pointer (some ⟨t,0,none⟩)] 160))=W0:=⟨_,rfl⟩
 have hsz:W0.heap.size=w.heap.size+3:=by rw[← hW0];simp
 have hB0:Below w.heap.size w W0:=by rw[← hW0];exact(((Below.refl _ w).alloc nlr _).alloc (by simp) _).alloc (by simp;omega) _
 have hR0:W0.heap[w.heap.size]? = some (.cells #[.slice none 0 0,.slice none 0 0,.slice none 0 0] 79 (0,0)):=by
  rw[← hW0,Below.heap_alloc _ _ _ (by simp;omega),Below.heap_alloc _ _ _ (by simp)];exact World.alloc_heap_new w _
 have hG0:W0.heap[w.heap.size+1]? = some (.cells #[.slice none 0 0,.slice none 0 0,.slice xp E.length xc] 79 (0,0)):=by
  rw[← hW0,Below.heap_alloc _ _ _ (by simp)]
  have:=World.alloc_heap_new (w.alloc (.cells #[.slice none 0 0,.slice none 0 0,.slice none 0 0] 79)) (.cells #[.slice none 0 0,.slice none 0 0,.slice xp E.length xc] 79)
  rwa [World.size_alloc] at this
 have hP0:W0.cell? ⟨w.heap.size+1+1,0,none⟩=some (.pointer (some ⟨t,0,none⟩)):=by
  have:=World.alloc_heap_new ((w.alloc (.cells #[.slice none 0 0,.slice none 0 0,.slice none 0 0] 79)).alloc (.cells #[.slice none 0 0,.slice none 0 0,.slice xp E.length xc] 79)) (.cells #[.pointer (some ⟨t,0,none⟩)] 160)
  rw[World.size_alloc,World.size_alloc,hW0] at this
  simp[World.cell?,this]
 have htl:t < w.heap.size:=(Array.getElem?_eq_some_iff.1 htb).1
 have hT0:W0.cell? ⟨t,0,none⟩=some (.slice p T.length cap):=by
  rw[hB0.cell (p:=⟨t,0,none⟩) htl];simp[World.cell?,htb]
 have hC0:∀ j (hj:j < T.length),∃ g,p=some ⟨g,0,none⟩∧g < w.heap.size∧W0.cell? ⟨g,j * 2,none⟩=some (.int .i32 T[j].1)∧W0.cell? ⟨g,j * 2+1,none⟩=some (.int .i64 T[j].2):=fun j hj=>by
  obtain⟨g,e,c0,c1⟩:=hents j hj
  have hg:=World.block_lt_of_cell? w _ c0
  exact⟨g,e,hg,(hB0.cell (p:=⟨g,j * 2,none⟩) hg).trans c0,(hB0.cell (p:=⟨g,j * 2+1,none⟩) hg).trans c1⟩
 have hE0:=obl hE hB0
 rw[hW0]
 clear hW0 hents htb hto
 refine wpIn_rangeFunc_ownG rfl (by omega) (gf:=169) (lb := #[.pointer (some ⟨w.heap.size+1+1,0,none⟩)]) rfl trivial (enters_of Tryz.func169 (by kernel_rfl) rfl)
  (all_stops _ _ trivial rfl (by omega) (w.heap.size+1+1) t w.heap.size p cap T (by omega) W0 (by omega) (by omega) (by omega) hP0 hT0 hC0) belowK_t (belowK_b (by omega)) (Below.refl _ _) (fun _=>rfl)
  (fun pre W=>(∃ v u,G2 W (w.heap.size+1) v u (.slice xp E.length xc) pre)∧Below (w.heap.size+1) W0 W)
  (fun _ _ _=>False)
  (OwnFrom.and (Own.from (G2.own _ _) _) (ownFrom_below (by omega) (by omega)))
  (fun _ _ _ _ _ hs _ _=>hs)
  ⟨⟨_,_,⟨by omega,hG0,World.ownsRow_nil _ _ _ _,World.ownsRow_nil _ _ _ _⟩⟩,Below.refl _ _⟩
  (fun y=>{ tmps := #[.pointer (some ⟨t,0,none⟩),.slice xp E.length xc,undef,undef,.pointer (some ⟨w.heap.size,0,none⟩),.pointer (some ⟨w.heap.size+1,0,none⟩),.int .i32 y.1,.int .i64 y.2,.slice xp E.length xc,.agg #[.slice none 0 0,.slice none 0 0,.slice xp E.length xc],.pointer (some ⟨t,0,none⟩),.func (.func 169) #[] #[.pointer (some ⟨w.heap.size+1+1,0,none⟩)],.int .i32 y.1,.int .i64 y.2,undef,undef,undef,undef,undef,undef,undef,undef,undef,undef,undef,undef,undef,undef,undef,undef],defers:=[] }) ?assign ?body ?done ?stop
 case assign =>
  intro l y W K hK
  gi_wp2
  exact hK
 case body =>
  rintro l pre y W ⟨⟨v,u,hG⟩,hBW⟩ hlt
  obtain⟨pv,kv,rfl,_⟩:=osl hG.r0
  obtain⟨pu,ku,rfl,_⟩:=osl hG.r1
  obtain⟨c0,c1,c2,cf⟩:=blk3_cell hG.blk
  have hGl:=hG.lt
  gi_wp2_with (first
   | (gi_at_builtin;refine wpListIn_append_own _ rfl _ _ 59 rfl (w.heap.size+1+1) 21 i0 (.int .i32 0) 1 4 Tryz.underlying59 hi0 hz0 hz1 hz2 rfl (by decide) (.slice pv pre.length kv) _ _ rfl (hG.r0.alloc _) ⟨W.heap.size,0,none⟩ 1 1 [.int .i32 y.1] rfl rfl (cell_one_new _ _ _) (by simp[Value.oneCell']) (by unfold maxLen;omega) (by omega) (by simp;omega) ?_;intro v' w1 hown1 hgrow1 _;obtain⟨g1,cap1,rfl⟩:=ownsRow_succ hown1;obtain⟨b1,b2,r2,s2,l2,m2⟩:=hG.half hown1 hgrow1;obtain⟨q0,q1,q2,qf⟩:=blk3_cell b1;have qf0:=qf 0;obtain⟨p0,p1,p2,pf⟩:=blk3_cell b2;have pf1:=pf 1)
   | (gi_at_builtin;refine wpListIn_append_own _ rfl _ _ 42 rfl (w.heap.size+1+1) 2 i1 (.int .i64 0) 1 8 Tryz.underlying42 hi1 hy0 hy1 hy2 rfl (by decide) (.slice pu pre.length ku) _ _ rfl (s2.alloc _) ⟨w1.heap.size,0,none⟩ 1 1 [.int .i64 y.2] rfl rfl (one_new_set _ _ _ _ _) (by simp[Value.oneCell']) (by unfold maxLen;omega) (by omega) (by simp[World.setCell];omega) ?_;intro u' w2 hown2 hgrow2 _;obtain⟨g2,cap2,rfl⟩:=ownsRow_succ hown2;obtain⟨b3,hG3⟩:=G2.full (p:=y) (by simp[World.setCell];omega) b2 r2 s2 hown2 hgrow2;obtain⟨e0,e1,e2,ef⟩:=blk3_cell b3;have ef1:=ef 1))
  exact⟨((keeps_ap hG.r0 hgrow1 _ _).trans (keeps_ap s2 hgrow2 _ _)).from _,(below_ap (below_ap ((Below.refl _ _)) hGl hG.r0 hgrow1 0 _) (by simp[World.setCell];omega) s2 hgrow2 1 _).mono (by omega),⟨_,_,hG3⟩,below_ap (below_ap hBW hGl hG.r0 hgrow1 0 _) (by simp[World.setCell];omega) s2 hgrow2 1 _⟩
 case done =>
  rintro D ys W hD rfl ⟨⟨v,u,hG⟩,hBW⟩ hK
  obtain⟨pv,kv,rfl,_⟩:=osl hG.r0
  obtain⟨pu,ku,rfl,_⟩:=osl hG.r1
  obtain⟨c0,c1,c2,cf⟩:=blk3_cell hG.blk
  have hBw:Below w.heap.size w W:=hB0.trans (hBW.mono (by omega))
  have hE1:=obl hE hBw
  have hRW:W.heap[w.heap.size]? = some (.cells #[.slice none 0 0,.slice none 0 0,.slice none 0 0] 79 (0,0)):=(hBW.block _ (by omega)).trans hR0
  have hDl:=(Array.getElem?_eq_some_iff.1 hK).1
  have hGl:=hG.lt
  have hxo:∀ k,w.heap.size≤k→some k≠(Value.slice xp E.length xc).ownBlock:=fun k hk e=>by have:=(hE.lt k e.symm).2;omega
  gi_wp2_with (refine⟨trivial,?_⟩;gi_at_call 117;refine(callsIn_wide.2 (sortEdges B E.length _ E _ rfl hE1 hEl)).mono ?_;rintro e W1 ⟨rfl,Y,hE2,hg2,hSt,hOrd⟩;have hb1:=(hg2.block _ hGl (hxo _ (by omega))).trans hG.blk;obtain⟨k0,k1,k2,kf⟩:=blk3_cell hb1;have hr1:=(hg2.block w.heap.size (by omega) (hxo _ (by omega))).trans hRW;obtain⟨n0,n1,n2,nf⟩:=blk3_cell hr1;have nf0:=nf 0;have nf1:=nf 1;have nf2:=nf 2)
  have hK1:=(hg2.block D hDl (hxo _ (by omega))).trans hK
  have hs2:=hg2.size
  obtain⟨W2,hW2⟩:∃ W2,set3 W1 w.heap.size (.slice pv ys.length kv) (.slice pu ys.length ku) (.slice xp E.length xc)=W2:=⟨_,rfl⟩
  have hg3:W1.grownBy W2 (some w.heap.size):=by rw[← hW2];exact set3_grown _ _ _ _ _
  have hR2:W2.heap[w.heap.size]? = some (.cells #[.slice pv ys.length kv,.slice pu ys.length ku,.slice xp E.length xc] 79 (0,0)):=by rw[← hW2];exact set3_blk hr1 _ _ _
  have hs3:=hg3.size
  have hK2:=(hg3.block D (by omega) (by simp;omega)).trans hK1
  have hR3:=((grownBy_putObj' W2 D (.deferred none)).block w.heap.size (by omega) (by simp;omega)).trans hR2
  obtain⟨m0,m1,m2,_⟩:=blk3_cell hR3
  show bodyPostM _ _ _ _ _ _ _ (set3 W1 w.heap.size (.slice pv ys.length kv) (.slice pu ys.length ku) (.slice xp E.length xc))
  rw[hW2]
  refine⟨by simp,.inl ⟨_,_,rfl,run_takeDeferred hK2,?_⟩⟩
  refine⟨graphVal (.slice pv ys.length kv) (.slice pu ys.length ku) (.slice xp E.length xc),by simp[results,Tryz.results66,go_sem,graphVal,m0,m1,m2],.slice pv ys.length kv,.slice pu ys.length ku,Y,rfl,?_,?_,?_,hSt,hOrd,?_⟩
  ·exact own_base (ownsRow_putObj ((own_app hE1 hG.r0 (by decide) hg2).kept hg3 (.inr (own_not (own_app hE1 hG.r0 (by decide) hg2) (by omega)).symm)) _ hK2 rfl) (by omega)
  ·exact own_base (ownsRow_putObj ((own_app hE1 hG.r1 (by decide) hg2).kept hg3 (.inr (own_not (own_app hE1 hG.r1 (by decide) hg2) (by omega)).symm)) _ hK2 rfl) (by omega)
  ·exact ownsRow_putObj (hE2.kept hg3 (.inr (hxo _ nlr).symm)) _ hK2 rfl
  ·exact((((hBw.mono hB).grown hg2 (by omega) (fun k hk=>(hE1.lt k hk).1)).grown hg3 (by omega) (fun k hk=>by cases hk;exact hB))).grown (grownBy_putObj' W2 D _) (by omega) (fun k hk=>by cases hk;omega)
 case stop =>
  rintro D c pre W _ _ h _
  exact h.elim
open Go.RowKit
theorem Sp.bt_out (s:ByteArray) (i:Nat) (h:¬ i < s.size):Sp.bt s i=0:=by
 unfold Sp.bt
 cases s with | mk d =>
 show (d[i]!).toNat=0
 rw[getElem!_neg d i h];rfl
theorem Sp.bt_end (s:ByteArray) (k p:Nat) (hk:k≤s.size):Sp.bt (s.extract k s.size) p=Sp.bt s (k+p):=by
 by_cases h:k+p < s.size
 ·exact Sp.bt_ex s k s.size p nlr h
 ·rw[Sp.bt_out _ _ (by simp;omega),Sp.bt_out _ _ (by omega)]
theorem Sp.dec_end (s:ByteArray) (k:Nat) (hk:k < s.size):Utf8.decode (s.extract k s.size) 0=Utf8.decode s k:=by
 rw[Sp.dec,Sp.dec]
 have hz:(s.extract k s.size).size - 0=s.size - k:=by simp
 rw[hz,Sp.bt_end s k _ (by omega),Sp.bt_end s k _ (by omega),Sp.bt_end s k _ (by omega),Sp.bt_end s k _ (by omega)]
 simp only[Nat.add_zero,Nat.zero_add]
theorem Sp.go_end (s:ByteArray) (k:Nat) (hk:k < s.size):Lib.decodeGo (s.extract k s.size)=Utf8.decode s k:=by
 unfold Lib.decodeGo
 rw[if_neg (by simp;omega),Sp.dec_end s k hk]
theorem tabs_below {w w':World} (h:Lib.Utf8Tabs 3 4 w) (hb:Below w.heap.size w w'):Lib.Utf8Tabs 3 4 w':=by
 obtain⟨h1,h2⟩:=h
 refine⟨fun c hc=>?_,fun i hi=>⟨?_,?_⟩⟩
 ·rw[hb.cell (World.block_lt_of_cell? w _ (h1 c hc))];exact h1 c hc
 ·rw[hb.cell (World.block_lt_of_cell? w _ (h2 i hi).1)];exact(h2 i hi).1
 ·rw[hb.cell (World.block_lt_of_cell? w _ (h2 i hi).2)];exact(h2 i hi).2
def FindPost (s:ByteArray) (w:World) (e:Ending) (w':World):Prop :=
 Below w.heap.size w w'∧match Sp.bad s with
  | some i=>e = .returned (.tuple #[.int .i64 (i:Nat),.bool true])
  | none=>e = .returned (.tuple #[.int .i64 0,.bool false])
theorem findNoRune_any (s:ByteArray) (w:World) (hs:s.size≤4000) (hT:Lib.Utf8Tabs 3 4 w):Calls Tryz.prog 61 #[.string s] w (FindPost s w):=by
 have HT:=hde hT
 clear hT
 go_enter Tryz.func61,Tryz.ntmps61
 go_wp2
 go_loopw [2] (fun _ wr=>∃ (k f:Nat),k≤s.size∧s.size - k≤f∧wr.heap[w.heap.size]? = some (.stringIter s k)∧Below w.heap.size w wr∧Hid (Sp.badFrom s f k=Sp.bad s)) (fun _ wr=>s.size - wr.iterPos w.heap.size)
 case atStart=>exact⟨0,s.size,Nat.zero_le _,by omega,World.iter_heap w s 0,(Below.refl _ _).alloc nlr _,rfl⟩
 case round =>
  obtain⟨k,f,hk,hf,hit,hbw,HB⟩:=hrel
  have hpos0:=iterPos_of hit
  by_cases hlt:k < s.size
  ·obtain⟨f,rfl⟩:∃ g,f=g+1:=⟨f - 1,by omega⟩
   have hsz:=Sp.dec_size hlt
   have HG:=hde (Sp.go_end s k hlt)
   have hnx:∀ ty,(Instr.next (.pointer (some ⟨w.heap.size,0,none⟩)) true ty).run Tryz.prog wr=_:=fun ty=>Lib.run_next_any_at wr w.heap.size s k ty hit hlt
   have hit2:=Lib.iterAt_heap wr w.heap.size s k (k+(Utf8.decode s k).2) hit
   have hbw2:=Lib.below_iterAt hbw (k:=w.heap.size) nlr s (k+(Utf8.decode s k).2)
   obtain⟨W1,hW1⟩:∃ W1,W1=wr.iterAt w.heap.size s (k+(Utf8.decode s k).2):=⟨_,rfl⟩
   rw[← hW1] at hnx hit2 hbw2
   clear hW1 hit hbw
   have hx:s.extract k s.size=s.extract k s.size:=rfl
   by_cases hd:Utf8.decode s k=(65533,1)
   ·have HE:Hid (Sp.bad s=some k):=by
     show _=_;rw[← HB.out];simp only[Sp.badFrom];rw[if_pos hlt,if_pos hd]
    have HD:=hde hd
    rw[hd] at hnx
    have HT2:=hde (tabs_below (uh HT) hbw2)
    clear hd hsz
    go_wp2_with fail
    refine(Tryz.utf8_DecodeRuneInString _ _ (uh HT2)).mono ?_
    rintro e w2 ⟨rfl,hb2⟩
    rw[uh HG,uh HD]
    go_wp2
    exact bodyPost_ret (v := .tuple #[.int .i64 k,.bool true]) (by simp[results,Tryz.results61,go_sem]) rfl ⟨hbw2.trans (hb2.mono hbw2.size),by rw[uh HE]⟩
   ·have HE:Hid (Sp.badFrom s f (k+(Utf8.decode s k).2)=Sp.bad s):=by
     show _=_;rw[← HB.out];simp only[Sp.badFrom];rw[if_pos hlt,if_neg hd]
    by_cases h1:(Utf8.decode s k).1=65533
    ·have h2:¬ (Utf8.decode s k).2=1:=fun h=>hd (Prod.ext h1 h)
     have HT2:=hde (tabs_below (uh HT) hbw2)
     clear hd
     generalize Utf8.decode s k=D at *
     obtain⟨d1,d2⟩:=D
     simp only at h1 h2 hsz hit2 hnx
     subst h1
     have hne:(((d2:Nat):Int) == 1)=false:=beq_eq_false_iff_ne.2 (by omega)
     go_wp2_with fail
     refine(Tryz.utf8_DecodeRuneInString _ _ (uh HT2)).mono ?_
     rintro e w2 ⟨rfl,hb2⟩
     rw[uh HG]
     have hit3:=(hb2.block _ (lt_of_block hit2)).trans hit2
     go_wp2
     go_roundw
     case rel=>exact⟨k+d2,f,by omega,by omega,hit3,hbw2.trans (hb2.mono hbw2.size),HE⟩
     case measure=>rw[iterPos_of hit3,hpos0];omega
    ·have hne:((((Utf8.decode s k).1:Nat):Int) != 65533)=true:=by rw[bne_iff_ne];omega
     clear hd h1
     generalize Utf8.decode s k=D at *
     obtain⟨d1,d2⟩:=D
     go_wp2
     go_roundw
     case rel=>exact⟨k+d2,f,by omega,by omega,hit2,hbw2,HE⟩
     case measure=>rw[iterPos_of hit2,hpos0];omega
  ·have HE:Hid (Sp.bad s=none):=by
    show _=_;rw[← HB.out]
    cases f with
    | zero=>rfl
    | succ f=>simp only[Sp.badFrom];rw[if_neg hlt]
   have hnx:∀ ty,(Instr.next (.pointer (some ⟨w.heap.size,0,none⟩)) true ty).run Tryz.prog wr=_:=fun ty=>Lib.run_next_end_at wr w.heap.size s k ty hit hlt
   go_wp2
   exact bodyPost_ret (v := .tuple #[.int .i64 0,.bool false]) (by simp[results,Tryz.results61,go_sem]) rfl ⟨hbw,by rw[uh HE]⟩
abbrev nilG:Value:=graphVal (.slice none 0 0) (.slice none 0 0) (.slice none 0 0)
theorem refuse_any (a b:Int) (w:World):Calls Tryz.prog 60 #[.int .i64 a,.int .i64 b] w fun e w'=>e = .returned (.tuple #[nilG,.int .i64 a,.int .i64 b])∧Below w.heap.size w w':=by
 go_enter Tryz.func60,Tryz.ntmps60
 go_wp2
 refine bodyPost_ret (v := .tuple #[nilG,.int .i64 a,.int .i64 b]) (by simp[results,Tryz.results60,go_sem,graphVal]) rfl ⟨rfl,?_⟩
 exact(Below.refl _ _).alloc nlr _
def Small (s:ByteArray):Prop := ∀ L,Sp.parseSpec s = .ok L→(Sp.vs L (Sp.nv L)).length≤64∧(Sp.es L (Sp.nv L) (Sp.nv L)).length≤256
theorem small_err {s:ByteArray} {ab:Int × Int} (h:Sp.parseSpec s = .error ab):Small s:=fun L hL=>by rw[h] at hL;cases hL
def PPost (s:ByteArray) (w:World) (e:Ending) (w':World):Prop:=ParsePost s w e w'∧Small s
theorem split_ok_below {w w':World} (h:SplitOk w) (hb:Below w.heap.size w w'):SplitOk w':=by
 obtain⟨m,hm⟩:=h
 exact⟨m,(hb.cell (World.block_lt_of_cell? w _ hm)).trans hm⟩
def Res (w w':World):Prop:=Below w.heap.size w w'∧w.heap.size+1≤w'.heap.size∧w'.heap[w.heap.size]? = some (.cells #[.slice none 0 0,.slice none 0 0,.slice none 0 0] 79 (0,0))
theorem Res.new (w:World):Res w (w.alloc (.cells #[.slice none 0 0,.slice none 0 0,.slice none 0 0] 79)):=⟨(Below.refl _ _).alloc nlr _,by simp,World.alloc_heap_new w _⟩
theorem Res.next {w a b:World} (h:Res w a) (hb:Below a.heap.size a b):Res w b :=
 ⟨h.1.trans (hb.mono (by have:=h.2.1;omega)),Nat.le_trans h.2.1 hb.size,(hb.block _ (by have:=h.2.1;omega)).trans h.2.2⟩
theorem Res.next1 {w a b:World} {n:Nat} (h:Res w a) (hb:Below n a b) (hn:w.heap.size+1≤n):Res w b :=
 ⟨h.1.trans (hb.mono (by omega)),Nat.le_trans h.2.1 hb.size,(hb.block _ (by omega)).trans h.2.2⟩
theorem gparse_long (s:ByteArray) (w:World) (h:4000 < s.size):Calls Tryz.prog 35 #[.string s] w (PPost s w):=by
 have HP:=hde (spec_long h)
 have hz:(4000:Int) < (s.size:Int):=by omega
 clear h
 go_enter Tryz.func35,Tryz.ntmps35
 go_wp2_with fail
 have R0:=Res.new w
 refine(refuse_any 1 0 _).mono ?_
 rintro e wz ⟨rfl,hbz⟩
 have RZ:=R0.next hbz
 obtain⟨n0,n1,n2,nf⟩:=blk3_cell RZ.2.2
 have nf0:=nf 0
 have nf1:=nf 1
 have nf2:=nf 2
 have hzs:=RZ.2.1
 have hzb:=RZ.1
 clear hbz
 unfold nilG graphVal
 go_wp2
 refine bodyPost_ret (v := .tuple #[nilG,.int .i64 1,.int .i64 0]) (by simp[results,Tryz.results35,go_sem,graphVal,n0,n1,n2]) rfl ⟨parse_err (uh HP) ?_,small_err (uh HP)⟩
 exact((hzb.setCell nlr _).setCell nlr _).setCell nlr _
theorem gparse_bad (s:ByteArray) (w:World) (hs:s.size≤4000) (hT:Lib.Utf8Tabs 3 4 w) (hS:SplitOk w) {i:Nat} (hb:Sp.bad s=some i):Calls Tryz.prog 35 #[.string s] w (PPost s w):=by
 have HP:=hde (spec_bad (by omega) hb)
 have HB:=hde hb
 have hz:¬ (4000:Int) < (s.size:Int):=by omega
 clear hb
 go_enter Tryz.func35,Tryz.ntmps35
 go_wp2_with fail
 have R0:=Res.new w
 refine(findNoRune_any s _ hs (tabs_below hT R0.1)).mono ?_
 rintro e w1 ⟨hb1,hm1⟩
 rw[uh HB] at hm1
 obtain rfl:=hm1
 have R1:=R0.next hb1
 clear hb1
 go_wp2_with fail
 refine(refuse_any 2 (i:Nat) _).mono ?_
 rintro e wz ⟨rfl,hbz⟩
 have RZ:=R1.next hbz
 obtain⟨n0,n1,n2,nf⟩:=blk3_cell RZ.2.2
 have nf0:=nf 0
 have nf1:=nf 1
 have nf2:=nf 2
 have hzs:=RZ.2.1
 have hzb:=RZ.1
 clear hbz
 unfold nilG graphVal
 go_wp2
 refine bodyPost_ret (v := .tuple #[nilG,.int .i64 2,.int .i64 (i:Nat)]) (by simp[results,Tryz.results35,go_sem,graphVal,n0,n1,n2]) rfl ⟨parse_err (uh HP) ?_,small_err (uh HP)⟩
 exact((hzb.setCell nlr _).setCell nlr _).setCell nlr _
theorem gparse_form (s:ByteArray) (w:World) (hs:s.size≤4000) (hT:Lib.Utf8Tabs 3 4 w) (hS:SplitOk w) (hb:Sp.bad s=none) {k:Nat} (hl:Sp.plFrom (Sp.split s 10) 0 [] = .error k):Calls Tryz.prog 35 #[.string s] w (PPost s w):=by
 have HP:=hde (spec_form (by omega) hb hl)
 have HB:=hde hb
 have HL:=hde hl
 have hz:¬ (4000:Int) < (s.size:Int):=by omega
 clear hb hl
 go_enter Tryz.func35,Tryz.ntmps35
 go_wp2_with fail
 have R0:=Res.new w
 refine(findNoRune_any s _ hs (tabs_below hT R0.1)).mono ?_
 rintro e w1 ⟨hb1,hm1⟩
 rw[uh HB] at hm1
 obtain rfl:=hm1
 have R1:=R0.next hb1
 clear hb1
 go_wp2_with fail
 refine(readLines_any s _ hs (Sp.V_of_bad (uh HB)) (split_ok_below hS R1.1)).mono ?_
 rintro e w2 ⟨hb2,hm2⟩
 rw[uh HL] at hm2
 obtain rfl:=hm2
 have R2:=R1.next hb2
 clear hb2
 go_wp2_with fail
 refine(refuse_any 3 (k:Nat) _).mono ?_
 rintro e wz ⟨rfl,hbz⟩
 have RZ:=R2.next hbz
 obtain⟨n0,n1,n2,nf⟩:=blk3_cell RZ.2.2
 have nf0:=nf 0
 have nf1:=nf 1
 have nf2:=nf 2
 have hzs:=RZ.2.1
 have hzb:=RZ.1
 clear hbz
 unfold nilG graphVal
 go_wp2
 refine bodyPost_ret (v := .tuple #[nilG,.int .i64 3,.int .i64 (k:Nat)]) (by simp[results,Tryz.results35,go_sem,graphVal,n0,n1,n2]) rfl ⟨parse_err (uh HP) ?_,small_err (uh HP)⟩
 exact((hzb.setCell nlr _).setCell nlr _).setCell nlr _
theorem pl_short {s:ByteArray} (hs:s.size≤4000) {P:List (Option Sp.Ln)} (h:Sp.plFrom (Sp.split s 10) 0 [] = .ok P):P.length≤5000:=by
 have h1:=Sp.pl_len _ _ _ _ h
 have h2:=(Sp.split_len s 10).2
 simp at h1
 omega
theorem gparse_twice (s:ByteArray) (w:World) (hs:s.size≤4000) (hT:Lib.Utf8Tabs 3 4 w) (hS:SplitOk w) (hb:Sp.bad s=none) {P:List (Option Sp.Ln)} (hl:Sp.plFrom (Sp.split s 10) 0 [] = .ok P) {k:Nat} (hv:Sp.gv P 0 [] = .error k):Calls Tryz.prog 35 #[.string s] w (PPost s w):=by
 have HP:=hde (spec_twice (by omega) hb hl hv)
 have hPl:=pl_short hs hl
 have HB:=hde hb
 have HL:=hde hl
 have HV:=hde hv
 have hz:¬ (4000:Int) < (s.size:Int):=by omega
 clear hb hl hv
 go_enter Tryz.func35,Tryz.ntmps35
 go_wp2_with fail
 have R0:=Res.new w
 refine(findNoRune_any s _ hs (tabs_below hT R0.1)).mono ?_
 rintro e w1 ⟨hb1,hm1⟩
 rw[uh HB] at hm1
 obtain rfl:=hm1
 have R1:=R0.next hb1
 clear hb1
 go_wp2_with fail
 refine(readLines_any s _ hs (Sp.V_of_bad (uh HB)) (split_ok_below hS R1.1)).mono ?_
 rintro e w2 ⟨hb2,hm2⟩
 rw[uh HL] at hm2
 obtain⟨v2,rfl,ho2⟩:=hm2
 obtain⟨p2,c2,rfl,hpl⟩:=pls_of_own ho2
 have R2:=R1.next hb2
 clear hb2 ho2
 go_wp2_with fail
 refine(gatherVertices_any p2 c2 P _ hpl hPl).mono ?_
 rintro e w3 ⟨hb3,hm3⟩
 rw[uh HV] at hm3
 obtain rfl:=hm3
 have R3:=R2.next hb3
 clear hb3
 go_wp2_with fail
 refine(refuse_any 4 (k:Nat) _).mono ?_
 rintro e wz ⟨rfl,hbz⟩
 have RZ:=R3.next hbz
 obtain⟨n0,n1,n2,nf⟩:=blk3_cell RZ.2.2
 have nf0:=nf 0
 have nf1:=nf 1
 have nf2:=nf 2
 have hzs:=RZ.2.1
 have hzb:=RZ.1
 clear hbz
 unfold nilG graphVal
 go_wp2
 refine bodyPost_ret (v := .tuple #[nilG,.int .i64 4,.int .i64 (k:Nat)]) (by simp[results,Tryz.results35,go_sem,graphVal,n0,n1,n2]) rfl ⟨parse_err (uh HP) ?_,small_err (uh HP)⟩
 exact((hzb.setCell nlr _).setCell nlr _).setCell nlr _
theorem gparse_name (s:ByteArray) (w:World) (hs:s.size≤4000) (hT:Lib.Utf8Tabs 3 4 w) (hS:SplitOk w) (hb:Sp.bad s=none) {P:List (Option Sp.Ln)} (hl:Sp.plFrom (Sp.split s 10) 0 [] = .ok P) {T:Sp.Tb} (hv:Sp.gv P 0 [] = .ok T) {k:Nat} (he:Sp.ge T P 0 [] = .error k):Calls Tryz.prog 35 #[.string s] w (PPost s w):=by
 have HP:=hde (spec_name (by omega) hb hl hv he)
 have hPl:=pl_short hs hl
 have HB:=hde hb
 have HL:=hde hl
 have HV:=hde hv
 have HE:=hde he
 have hz:¬ (4000:Int) < (s.size:Int):=by omega
 clear hb hl hv he
 go_enter Tryz.func35,Tryz.ntmps35
 go_wp2_with fail
 have R0:=Res.new w
 refine(findNoRune_any s _ hs (tabs_below hT R0.1)).mono ?_
 rintro e w1 ⟨hb1,hm1⟩
 rw[uh HB] at hm1
 obtain rfl:=hm1
 have R1:=R0.next hb1
 clear hb1
 go_wp2_with fail
 refine(readLines_any s _ hs (Sp.V_of_bad (uh HB)) (split_ok_below hS R1.1)).mono ?_
 rintro e w2 ⟨hb2,hm2⟩
 rw[uh HL] at hm2
 obtain⟨v2,rfl,ho2⟩:=hm2
 obtain⟨p2,c2,rfl,hpl⟩:=pls_of_own ho2
 have R2:=R1.next hb2
 clear hb2 ho2
 go_wp2_with fail
 refine(gatherVertices_any p2 c2 P _ hpl hPl).mono ?_
 rintro e w3 ⟨hb3,hm3⟩
 rw[uh HV] at hm3
 obtain⟨rfl,htab,hts,htl⟩:=hm3
 have R3:=R2.next hb3
 have hpl3:=hpl.below hb3
 clear hpl hb3
 go_wp2_with fail
 refine(gatherEdges_any p2 c2 w2.heap.size _ P T _ hpl3 hPl htab hts (by omega)).mono ?_
 rintro e w4 ⟨hb4,hm4⟩
 rw[uh HE] at hm4
 obtain rfl:=hm4
 have R4:=R3.next hb4
 clear hb4
 go_wp2_with fail
 refine(refuse_any 5 (k:Nat) _).mono ?_
 rintro e wz ⟨rfl,hbz⟩
 have RZ:=R4.next hbz
 obtain⟨n0,n1,n2,nf⟩:=blk3_cell RZ.2.2
 have nf0:=nf 0
 have nf1:=nf 1
 have nf2:=nf 2
 have hzs:=RZ.2.1
 have hzb:=RZ.1
 clear hbz
 unfold nilG graphVal
 go_wp2
 refine bodyPost_ret (v := .tuple #[nilG,.int .i64 5,.int .i64 (k:Nat)]) (by simp[results,Tryz.results35,go_sem,graphVal,n0,n1,n2]) rfl ⟨parse_err (uh HP) ?_,small_err (uh HP)⟩
 exact((hzb.setCell nlr _).setCell nlr _).setCell nlr _
theorem gparse_many1 (s:ByteArray) (w:World) (hs:s.size≤4000) (hT:Lib.Utf8Tabs 3 4 w) (hS:SplitOk w) (hb:Sp.bad s=none) {P:List (Option Sp.Ln)} (hl:Sp.plFrom (Sp.split s 10) 0 [] = .ok P) {T:Sp.Tb} (hv:Sp.gv P 0 [] = .ok T) {E:List Sp.Ed} (he:Sp.ge T P 0 [] = .ok E) (hm:64 < T.length):Calls Tryz.prog 35 #[.string s] w (PPost s w):=by
 have HF:=hde (spec_fine (by omega) hb hl hv he)
 have hPl:=pl_short hs hl
 have HB:=hde hb
 have HL:=hde hl
 have HV:=hde hv
 have HE:=hde he
 have HP:Hid (Sp.parseSpec s = .error (6,0)):=by
  show _=_
  rw[(uh HF).spec,if_pos (Or.inr (by rw[← (uh HF).tl];exact hm))]
 have hmz:(64:Int) < (T.length:Int):=by omega
 clear hm
 have hz:¬ (4000:Int) < (s.size:Int):=by omega
 clear hb hl hv he
 go_enter Tryz.func35,Tryz.ntmps35
 go_wp2_with fail
 have R0:=Res.new w
 refine(findNoRune_any s _ hs (tabs_below hT R0.1)).mono ?_
 rintro e w1 ⟨hb1,hm1⟩
 rw[uh HB] at hm1
 obtain rfl:=hm1
 have R1:=R0.next hb1
 clear hb1
 go_wp2_with fail
 refine(readLines_any s _ hs (Sp.V_of_bad (uh HB)) (split_ok_below hS R1.1)).mono ?_
 rintro e w2 ⟨hb2,hm2⟩
 rw[uh HL] at hm2
 obtain⟨v2,rfl,ho2⟩:=hm2
 obtain⟨p2,c2,rfl,hpl⟩:=pls_of_own ho2
 have R2:=R1.next hb2
 clear hb2 ho2
 go_wp2_with fail
 refine(gatherVertices_any p2 c2 P _ hpl hPl).mono ?_
 rintro e w3 ⟨hb3,hm3⟩
 rw[uh HV] at hm3
 obtain⟨rfl,htab,hts,htl⟩:=hm3
 have R3:=R2.next hb3
 have hpl3:=hpl.below hb3
 clear hpl hb3
 go_wp2_with fail
 refine(gatherEdges_any p2 c2 w2.heap.size _ P T _ hpl3 hPl htab hts (by omega)).mono ?_
 rintro e w4 ⟨hb4,hm4⟩
 rw[uh HE] at hm4
 obtain⟨v4,rfl,ho4,hel⟩:=hm4
 obtain⟨p4,c4,rfl,_⟩:=osl ho4
 have R4:=R3.next hb4
 have htab4:=htab.below hb4
 have ho4':=own_base ho4 R3.2.1
 clear hpl3 hb4 htab ho4
 go_wp2_with fail
 refine(tlen_any _ _ T _ htab4).mono ?_
 rintro e w5 ⟨rfl,hw5⟩
 obtain rfl:=hw5.symm
 clear hw5
 go_wp2_with fail
 refine(refuse_any 6 0 _).mono ?_
 rintro e wz ⟨rfl,hbz⟩
 have RZ:=R4.next hbz
 obtain⟨n0,n1,n2,nf⟩:=blk3_cell RZ.2.2
 have nf0:=nf 0
 have nf1:=nf 1
 have nf2:=nf 2
 have hzs:=RZ.2.1
 have hzb:=RZ.1
 clear hbz
 unfold nilG graphVal
 go_wp2
 refine bodyPost_ret (v := .tuple #[nilG,.int .i64 6,.int .i64 0]) (by simp[results,Tryz.results35,go_sem,graphVal,n0,n1,n2]) rfl ⟨parse_err (uh HP) ?_,small_err (uh HP)⟩
 exact((hzb.setCell nlr _).setCell nlr _).setCell nlr _
theorem gparse_many2 (s:ByteArray) (w:World) (hs:s.size≤4000) (hT:Lib.Utf8Tabs 3 4 w) (hS:SplitOk w) (hb:Sp.bad s=none) {P:List (Option Sp.Ln)} (hl:Sp.plFrom (Sp.split s 10) 0 [] = .ok P) {T:Sp.Tb} (hv:Sp.gv P 0 [] = .ok T) {E:List Sp.Ed} (he:Sp.ge T P 0 [] = .ok E) (hm1:¬ 64 < T.length) (hm:256 < E.length):Calls Tryz.prog 35 #[.string s] w (PPost s w):=by
 have HF:=hde (spec_fine (by omega) hb hl hv he)
 have hPl:=pl_short hs hl
 have HB:=hde hb
 have HL:=hde hl
 have HV:=hde hv
 have HE:=hde he
 have HP:Hid (Sp.parseSpec s = .error (6,0)):=by
  show _=_
  rw[(uh HF).spec,if_pos (Or.inl (by rw[← (uh HF).el];exact hm))]
 have hmz1:¬ (64:Int) < (T.length:Int):=by omega
 have hmz:(256:Int) < (E.length:Int):=by omega
 have hz:¬ (4000:Int) < (s.size:Int):=by omega
 clear hb hl hv he
 go_enter Tryz.func35,Tryz.ntmps35
 go_wp2_with fail
 have R0:=Res.new w
 refine(findNoRune_any s _ hs (tabs_below hT R0.1)).mono ?_
 rintro e w1 ⟨hb1,hm1⟩
 rw[uh HB] at hm1
 obtain rfl:=hm1
 have R1:=R0.next hb1
 clear hb1
 go_wp2_with fail
 refine(readLines_any s _ hs (Sp.V_of_bad (uh HB)) (split_ok_below hS R1.1)).mono ?_
 rintro e w2 ⟨hb2,hm2⟩
 rw[uh HL] at hm2
 obtain⟨v2,rfl,ho2⟩:=hm2
 obtain⟨p2,c2,rfl,hpl⟩:=pls_of_own ho2
 have R2:=R1.next hb2
 clear hb2 ho2
 go_wp2_with fail
 refine(gatherVertices_any p2 c2 P _ hpl hPl).mono ?_
 rintro e w3 ⟨hb3,hm3⟩
 rw[uh HV] at hm3
 obtain⟨rfl,htab,hts,htl⟩:=hm3
 have R3:=R2.next hb3
 have hpl3:=hpl.below hb3
 clear hpl hb3
 go_wp2_with fail
 refine(gatherEdges_any p2 c2 w2.heap.size _ P T _ hpl3 hPl htab hts (by omega)).mono ?_
 rintro e w4 ⟨hb4,hm4⟩
 rw[uh HE] at hm4
 obtain⟨v4,rfl,ho4,hel⟩:=hm4
 obtain⟨p4,c4,rfl,_⟩:=osl ho4
 have R4:=R3.next hb4
 have htab4:=htab.below hb4
 have ho4':=own_base ho4 R3.2.1
 clear hpl3 hb4 htab ho4
 go_wp2_with fail
 refine(tlen_any _ _ T _ htab4).mono ?_
 rintro e w5 ⟨rfl,hw5⟩
 obtain rfl:=hw5.symm
 clear hw5
 go_wp2_with fail
 refine(refuse_any 6 0 _).mono ?_
 rintro e wz ⟨rfl,hbz⟩
 have RZ:=R4.next hbz
 obtain⟨n0,n1,n2,nf⟩:=blk3_cell RZ.2.2
 have nf0:=nf 0
 have nf1:=nf 1
 have nf2:=nf 2
 have hzs:=RZ.2.1
 have hzb:=RZ.1
 clear hbz
 unfold nilG graphVal
 go_wp2
 refine bodyPost_ret (v := .tuple #[nilG,.int .i64 6,.int .i64 0]) (by simp[results,Tryz.results35,go_sem,graphVal,n0,n1,n2]) rfl ⟨parse_err (uh HP) ?_,small_err (uh HP)⟩
 exact((hzb.setCell nlr _).setCell nlr _).setCell nlr _
theorem gparse_ok (s:ByteArray) (w:World) (hs:s.size≤4000) (hT:Lib.Utf8Tabs 3 4 w) (hS:SplitOk w) (hb:Sp.bad s=none) {P:List (Option Sp.Ln)} (hl:Sp.plFrom (Sp.split s 10) 0 [] = .ok P) {T:Sp.Tb} (hv:Sp.gv P 0 [] = .ok T) {E:List Sp.Ed} (he:Sp.ge T P 0 [] = .ok E) (hm1:¬ 64 < T.length) (hm2:¬ 256 < E.length):Calls Tryz.prog 35 #[.string s] w (PPost s w):=by
 have HF:=hde (spec_fine (by omega) hb hl hv he)
 have hPl:=pl_short hs hl
 have HB:=hde hb
 have HL:=hde hl
 have HV:=hde hv
 have HE:=hde he
 have HP:Hid (Sp.parseSpec s = .ok (Sp.says P)):=by
  show _=_
  rw[(uh HF).spec,if_neg (by rw[← (uh HF).el,← (uh HF).tl];omega)]
 have hmz1:¬ (64:Int) < (T.length:Int):=by omega
 have hmz2:¬ (256:Int) < (E.length:Int):=by omega
 have hz:¬ (4000:Int) < (s.size:Int):=by omega
 clear hb hl hv he
 go_enter Tryz.func35,Tryz.ntmps35
 go_wp2_with fail
 have R0:=Res.new w
 refine(findNoRune_any s _ hs (tabs_below hT R0.1)).mono ?_
 rintro e w1 ⟨hb1,hm1⟩
 rw[uh HB] at hm1
 obtain rfl:=hm1
 have R1:=R0.next hb1
 clear hb1
 go_wp2_with fail
 refine(readLines_any s _ hs (Sp.V_of_bad (uh HB)) (split_ok_below hS R1.1)).mono ?_
 rintro e w2 ⟨hb2,hm2⟩
 rw[uh HL] at hm2
 obtain⟨v2,rfl,ho2⟩:=hm2
 obtain⟨p2,c2,rfl,hpl⟩:=pls_of_own ho2
 have R2:=R1.next hb2
 clear hb2 ho2
 go_wp2_with fail
 refine(gatherVertices_any p2 c2 P _ hpl hPl).mono ?_
 rintro e w3 ⟨hb3,hm3⟩
 rw[uh HV] at hm3
 obtain⟨rfl,htab,hts,htl⟩:=hm3
 have R3:=R2.next hb3
 have hpl3:=hpl.below hb3
 clear hpl hb3
 go_wp2_with fail
 refine(gatherEdges_any p2 c2 w2.heap.size _ P T _ hpl3 hPl htab hts (by omega)).mono ?_
 rintro e w4 ⟨hb4,hm4⟩
 rw[uh HE] at hm4
 obtain⟨v4,rfl,ho4,hel⟩:=hm4
 obtain⟨p4,c4,rfl,_⟩:=osl ho4
 have R4:=R3.next hb4
 have htab4:=htab.below hb4
 have ho4':=own_base ho4 R3.2.1
 clear hpl3 hb4 htab ho4
 go_wp2_with fail
 refine(tlen_any _ _ T _ htab4).mono ?_
 rintro e w5 ⟨rfl,hw5⟩
 obtain rfl:=hw5.symm
 clear hw5
 go_wp2_with fail
 refine(makeGraph_any _ (w.heap.size+1) _ _ T E _ htab4 (by omega) ho4' (by omega) R4.2.1).mono ?_
 rintro e w6 ⟨v6,u6,Y,rfl,r60,r61,r62,hSt,hOrd,hb6⟩
 have R6:=R4.next1 hb6 nlr
 obtain⟨pv,kv,rfl,_⟩:=osl r60
 obtain⟨pu,ku,rfl,_⟩:=osl r61
 obtain⟨n0,n1,n2,nf⟩:=blk3_cell R6.2.2
 have nf0:=nf 0
 have nf1:=nf 1
 have nf2:=nf 2
 have hzs:=R6.2.1
 have hzb:=R6.1
 have HST:=hde hSt
 have HORD:=hde hOrd
 clear hb6 hSt hOrd
 unfold graphVal
 go_wp2
 have hvs:=Sp.vs_eq (uh HF).srt (uh HF).prm
 have hY:Y=Sp.es (Sp.says P) (Sp.nv (Sp.says P)) (Sp.nv (Sp.says P)):=es_done (uh HF).srt (uh HF).prm (uh HF).lo (by rw[← (uh HF).eq];exact uh HST) (by rw[← (uh HF).eq];exact uh HORD)
 have hYl:E.length=Y.length:=(uh HST).1.symm
 have hlt:w.heap.size < w.heap.size+1:=Nat.lt_succ_self _
 refine bodyPost_ret (v := .tuple #[graphVal (.slice pv T.length kv) (.slice pu T.length ku) (.slice p4 E.length c4),.int .i64 0,.int .i64 0]) (by simp[results,Tryz.results35,go_sem,graphVal,n0,n1,n2]) rfl ?_
 refine⟨?_,fun L hL=>by rw[uh HP] at hL;injection hL with hL;subst hL;refine⟨?_,by rw[← hY,← hYl];omega⟩;have h1:=congrArg List.length hvs;simp at h1;omega⟩
 refine parse_okl (N:=T.map (·.1)) (V:=T.map (·.2)) (uh HP) rfl (((hzb.setCell nlr _).setCell nlr _).setCell nlr _) (by rw[← hvs];simp) (by rw[← hvs];simp) ?_ ?_ ?_
 ·have h:=own_base (B:=w.heap.size) (ownsRow_setCell_below (ownsRow_setCell_below (ownsRow_setCell_below r60 (a:=⟨w.heap.size,0,none⟩) hlt (.slice pv T.length kv)) (a:=⟨w.heap.size,1,none⟩) hlt (.slice pu T.length ku)) (a:=⟨w.heap.size,2,none⟩) hlt (.slice p4 E.length c4)) (Nat.le_succ _)
  simpa [List.map_map,Function.comp_def] using h
 ·have h:=own_base (B:=w.heap.size) (ownsRow_setCell_below (ownsRow_setCell_below (ownsRow_setCell_below r61 (a:=⟨w.heap.size,0,none⟩) hlt (.slice pv T.length kv)) (a:=⟨w.heap.size,1,none⟩) hlt (.slice pu T.length ku)) (a:=⟨w.heap.size,2,none⟩) hlt (.slice p4 E.length c4)) (Nat.le_succ _)
  simpa [List.map_map,Function.comp_def] using h
 ·have h:=own_base (B:=w.heap.size) (ownsRow_setCell_below (ownsRow_setCell_below (ownsRow_setCell_below r62 (a:=⟨w.heap.size,0,none⟩) hlt (.slice pv T.length kv)) (a:=⟨w.heap.size,1,none⟩) hlt (.slice pu T.length ku)) (a:=⟨w.heap.size,2,none⟩) hlt (.slice p4 E.length c4)) (Nat.le_succ _)
  rw[← hY,← hYl]
  exact h
theorem gparse_any (s:ByteArray) (w:World) (hT:Lib.Utf8Tabs 3 4 w) (hS:SplitOk w):Calls Tryz.prog 35 #[.string s] w (PPost s w):=by
 by_cases h0:4000 < s.size
 ·exact gparse_long s w h0
 ·cases hb:Sp.bad s with
  | some i=>exact gparse_bad s w (by omega) hT hS hb
  | none =>
   cases hl:Sp.plFrom (Sp.split s 10) 0 [] with
   | error k=>exact gparse_form s w (by omega) hT hS hb hl
   | ok P =>
    cases hv:Sp.gv P 0 [] with
    | error k=>exact gparse_twice s w (by omega) hT hS hb hl hv
    | ok T =>
     cases he:Sp.ge T P 0 [] with
     | error k=>exact gparse_name s w (by omega) hT hS hb hl hv he
     | ok E =>
      by_cases h1:64 < T.length
      ·exact gparse_many1 s w (by omega) hT hS hb hl hv he h1
      ·by_cases h2:256 < E.length
       ·exact gparse_many2 s w (by omega) hT hS hb hl hv he h1 h2
       ·exact gparse_ok s w (by omega) hT hS hb hl hv he h1 h2
end Go.Proofs.YteflnddphpjahaaGreatDoor
