import Derived.Test.YteflnddphpjahaaGreatDoorCmCardAtoCopyK
import Derived.Shelf.Spec.SlicesInsertGrow
import Derived.Deep.DeepMust
import Derived.Deep.RegionLaw
import Derived.BigQuiet
set_option linter.unusedVariables false
set_option linter.unusedSimpArgs false
set_option maxRecDepth 100000
set_option maxHeartbeats 16000000
namespace Go.Proofs.YteflnddphpjahaaGreatDoor
open Go.RowKit
theorem Tryz.info_entry:(Tryz.prog.info? 313).map (fun i=>(i.zero,i.size,i.bytes))=some (some (.agg #[.int .i32 0,.int .i64 0]),2,16):=by kernel_rfl
section
variable {α : Type}
def ovr (L:List α) (o:Nat) (c:List α):List α:=L.take o++c++L.drop (o+c.length)
theorem ovr_len (L:List α) (o:Nat) (c:List α) (h:o+c.length≤L.length):(ovr L o c).length=L.length:=by simp[ovr];omega
theorem ovr_room (L:List α) (o:Nat) (V D:List α) (n:Nat) (h1:o+V.length+D.length≤L.length) :
  (ovr (ovr L (o+V.length) D) o V).take (o+V.length+D.length)=L.take o++V++D:=by
 have e1:(ovr L (o+V.length) D).take o=L.take o:=by
  unfold ovr
  rw[List.append_assoc,List.take_append_of_le_length (by simp;omega),List.take_take,Nat.min_eq_left (by omega)]
 have e2:(ovr L (o+V.length) D).drop (o+V.length)=D++L.drop (o+V.length+D.length):=by
  unfold ovr
  rw[List.append_assoc,List.drop_append_of_le_length (by simp;omega),List.drop_of_length_le (by simp;omega),List.nil_append]
 show (List.take o _++V++List.drop (o+V.length) _).take _=_
 rw[e1,e2,← List.append_assoc,List.take_append_of_le_length (by simp;omega),List.take_of_length_le (by simp;omega)]
theorem ovr_grow (L:List α) (o:Nat) (V D:List α) (h1:o+V.length+D.length≤L.length) :
  (ovr (ovr L o V) (o+V.length) D).take (o+V.length+D.length)=L.take o++V++D:=by
 have e1:(ovr L o V).take (o+V.length)=L.take o++V:=by
  unfold ovr
  rw[List.take_append_of_le_length (by simp;omega),List.take_of_length_le (by simp;omega)]
 show (List.take _ _++D++List.drop _ _).take _=_
 rw[e1,List.take_append_of_le_length (by simp;omega),List.take_of_length_le (by simp;omega)]
end
theorem tb_take (T:Sp.Tb) (i:Nat):(tbCells T).take (i * 2)=tbCells (T.take i):=by
 induction T generalizing i with
 | nil=>simp[tbCells]
 | cons p t ih =>
  cases i with
  | zero=>simp[tbCells]
  | succ i =>
   have e:tbCells (p :: t) = .int .i32 p.1 :: .int .i64 p.2 :: tbCells t:=by simp[tbCells]
   rw[e,show (i+1) * 2=i * 2+1+1 by omega,List.take_succ_cons,List.take_succ_cons,ih]
   simp[tbCells]
theorem tb_drop (T:Sp.Tb) (i:Nat):(tbCells T).drop (i * 2)=tbCells (T.drop i):=by
 induction T generalizing i with
 | nil=>simp[tbCells]
 | cons p t ih =>
  cases i with
  | zero=>simp
  | succ i =>
   have e:tbCells (p :: t) = .int .i32 p.1 :: .int .i64 p.2 :: tbCells t:=by simp[tbCells]
   rw[e,show (i+1) * 2=i * 2+1+1 by omega,List.drop_succ_cons,List.drop_succ_cons,ih]
   simp
theorem tb_ins (T:Sp.Tb) (i:Nat) (a b:Int):(tbCells T).take (i * 2)++[.int .i32 a,.int .i64 b]++(tbCells T).drop (i * 2)=tbCells (T.take i++(a,b) :: T.drop i):=by
 rw[tb_take,tb_drop,tb_append]
 simp[tbCells]
def InsPost (w:World) (B:Nat) (v:Value) (T:Sp.Tb) (i:Nat) (a b:Int) (e:Ending) (w':World):Prop :=
 ∃ v',e = .returned v'∧w'.ownsRow B 313 2 v' (T.length+1) (tbCells (T.take i++(a,b) :: T.drop i))∧w.grownBy w' v.ownBlock
theorem insert_end (B x:Nat) (v:Value) (T:Sp.Tb) (a b:Int) (w:World) (hB:B≤w.heap.size) (h:w.ownsRow B 313 2 v T.length (tbCells T)) (hl:T.length≤100000)
  (hx:w.heap[x]? = some (.cells #[.int .i32 a,.int .i64 b] 313 (0,0))) :
  Calls Tryz.prog 165 #[v,.int .i64 T.length,.slice (some ⟨x,0,none⟩) 1 1] w (InsPost w B v T T.length a b):=by
 obtain⟨i0,hi,hz0,hz1,hz2⟩:=info_parts Tryz.info_entry
 obtain⟨p,cap,rfl,hcp⟩:=osl h
 have hcap:T.length≤cap:=by
  rcases h.2 with ⟨hv,hn⟩ | ⟨g,cap',cur,hv,_,_,hn,_⟩
  ·omega
  ·injection hv with _ _ hv;omega
 have hcm:cap≤9223372036854775807:=by
  rcases h.2 with ⟨hv,hn⟩ | ⟨g,cap',cur,hv,_,_,hn,hm,_⟩
  ·injection hv with _ _ hv;omega
  ·injection hv with _ _ hv;unfold maxLen at hm;omega
 clear hcp
 have x0:w.cell? ⟨x,0,none⟩=some (.int .i32 a):=by rw[cell_of_row w x 0 _ _ _ hx];rfl
 have x1:w.cell? ⟨x,1,none⟩=some (.int .i64 b):=by rw[cell_of_row w x 1 _ _ _ hx];rfl
 by_cases hce:cap=T.length
 ·subst hce
  go_enter Tryz.func165,Tryz.ntmps165
  go_wp2_with (first
   | (at_builtin;go_must (refine wpList_append_own _ rfl (.tmp 23) (.tmp 24) 241 rfl B 313 i0 _ 2 16 Tryz.underlying241 hi hz0 hz1 hz2 rfl (by decide) _ _ _ rfl h ⟨x,0,none⟩ 1 1 [.int .i32 a,.int .i64 b] rfl rfl ?c1 ?c2 ?c3 ?c4 ?c5 ?_))
   | go_in)
  case c1 =>
   intro j u hj
   match j,hj with
   | 0,hj=>simp at hj;subst hj;simpa [Addr.add] using x0
   | 1,hj=>simp at hj;subst hj;simpa [Addr.add] using x1
  case c2=>intro u hu;simp at hu;rcases hu with rfl | rfl <;> rfl
  case c3=>unfold maxLen;omega
  case c4=>omega
  case c5=>exact hB
  intro v3 w3 h3 hg3 _
  go_wp2
  go_ret
  refine⟨v3,rfl,?_,hg3⟩
  have e:tbCells (T.take T.length++(a,b) :: T.drop T.length)=tbCells T++[.int .i32 a,.int .i64 b]:=by simp[tbCells]
  rw[e];exact h3
 ·have hci:T.length < cap:=by omega
  go_enter Tryz.func165,Tryz.ntmps165
  go_wp2_with (first
   | (at_builtin;go_must (refine wpList_append_own _ rfl (.tmp 23) (.tmp 24) 241 rfl B 313 i0 _ 2 16 Tryz.underlying241 hi hz0 hz1 hz2 rfl (by decide) _ _ _ rfl h ⟨x,0,none⟩ 1 1 [.int .i32 a,.int .i64 b] rfl rfl ?c1 ?c2 ?c3 ?c4 ?c5 ?_))
   | go_in)
  case c1 =>
   intro j u hj
   match j,hj with
   | 0,hj=>simp at hj;subst hj;simpa [Addr.add] using x0
   | 1,hj=>simp at hj;subst hj;simpa [Addr.add] using x1
  case c2=>intro u hu;simp at hu;rcases hu with rfl | rfl <;> rfl
  case c3=>unfold maxLen;omega
  case c4=>omega
  case c5=>exact hB
  intro v3 w3 h3 hg3 _
  go_wp2
  go_ret
  refine⟨v3,rfl,?_,hg3⟩
  have e:tbCells (T.take T.length++(a,b) :: T.drop T.length)=tbCells T++[.int .i32 a,.int .i64 b]:=by simp[tbCells]
  rw[e];exact h3
theorem size_entry:(Tryz.prog.info? 313).map (·.size)=some 2:=by
 obtain⟨i0,hi,hz0,hz1,hz2⟩:=info_parts Tryz.info_entry
 rw[hi];simp[hz1]
theorem sizeOf_entry (w:World):(Go.sizeOf 313).run Tryz.prog w = .ok 2 w:=by
 obtain⟨i0,hi,hz0,hz1,hz2⟩:=info_parts Tryz.info_entry
 simp[sizeOf,typeInfo,hi,hz1]
theorem overlaps_no (w:World) (x g o lb cb:Nat) (a b:Int) (cur:Array Value) (hne:x≠g) (hx:w.heap[x]? = some (.cells #[.int .i32 a,.int .i64 b] 313 (0,0))) (hg:w.heap[g]? = some (.cells cur 313 (0,0))) (hc:cur.size≠0) :
  (callFunc 248 #[.slice (some ⟨x,0,none⟩) 1 1,.slice (some ⟨g,o,none⟩) lb cb]).run Tryz.prog w = .ok (.value (.bool false)) w:=by
 rw[run_callFunc_extern Tryz.func248 (by kernel_rfl) (by kernel_rfl) (by kernel_rfl) (e:=Extern.SlicesOverlaps.overlaps #[241,241] #[4]) (by kernel_rfl),
  Lib.run_overlaps_apart w 241 4 313 Tryz.underlying241 2 sizeOf_entry ⟨x,0,none⟩ ⟨g,o,none⟩ 1 1 lb cb hne 313 313 2 cur.size (by simp[World.shape?,hx]) (by simp[World.shape?,hg]) hc (by simp[World.frozen?,hx]) (by simp[World.frozen?,hx])]
 rfl
theorem insert_room (B x g cap i:Nat) (cur:Array Value) (T:Sp.Tb) (a b:Int) (w:World) (hi:i < T.length) (hB:B≤g) (hroom:T.length+1≤cap) (hcm:cap≤maxLen) (hl:T.length≤100000) (hne:x≠g)
  (hg:w.heap[g]? = some (.cells cur 313 (0,0))) (hcs:cur.size=cap * 2) (htake:cur.toList.take (T.length * 2)=tbCells T)
  (hx:w.heap[x]? = some (.cells #[.int .i32 a,.int .i64 b] 313 (0,0))) :
  Calls Tryz.prog 165 #[.slice (some ⟨g,0,none⟩) T.length cap,.int .i64 i,.slice (some ⟨x,0,none⟩) 1 1] w (InsPost w B (.slice (some ⟨g,0,none⟩) T.length cap) T i a b):=by
 have hov:∀ o lb cb,(callFunc 248 #[.slice (some ⟨x,0,none⟩) 1 1,.slice (some ⟨g,o,none⟩) lb cb]).run Tryz.prog w = .ok (.value (.bool false)) w:=fun o lb cb=>overlaps_no w x g o lb cb a b cur hne hx hg (by omega)
 obtain⟨D,hD⟩:∃ D,D=(tbCells T).drop (i * 2):=⟨_,rfl⟩
 obtain⟨V,hVd⟩:∃ V:List Value,V=[.int .i32 a,.int .i64 b]:=⟨_,rfl⟩
 have hDl:D.length=(T.length - i) * 2:=by rw[hD,List.length_drop,tb_len];omega
 have hVl:V.length=2:=by rw[hVd];rfl
 have hcl:cur.toList.length=cap * 2:=by simpa using hcs
 obtain⟨c1,hc1⟩:∃ c1,c1=ovr cur.toList (i * 2+V.length) D:=⟨_,rfl⟩
 obtain⟨c2,hc2⟩:∃ c2,c2=ovr c1 (i * 2) V:=⟨_,rfl⟩
 have hc1l:c1.length=cap * 2:=by rw[hc1,ovr_len _ _ _ (by omega)];exact hcl
 have hc2l:c2.length=cap * 2:=by rw[hc2,ovr_len _ _ _ (by omega)];exact hc1l
 have hres:c2.take ((T.length+1) * 2)=tbCells (T.take i++(a,b) :: T.drop i):=by
  have e:=ovr_room cur.toList (i * 2) V D 0 (by omega)
  rw[← hc1,← hc2] at e
  have e2:i * 2+V.length+D.length=(T.length+1) * 2:=by omega
  rw[e2] at e
  rw[e,← tb_ins,← hVd,← hD]
  congr 2
  rw[← htake,List.take_take,Nat.min_eq_left (by omega)]
 have hcell:∀ j v,D[j]? = some v→w.cell? ⟨g,i * 2+j,none⟩=some v:=fun j v hj=>by
  have hjl:j < D.length:=(List.getElem?_eq_some_iff.1 hj).1
  rw[cell_of_row w g _ _ _ _ hg]
  rw[hD,← htake,List.getElem?_drop,List.getElem?_take,if_pos (by omega)] at hj
  simpa using hj
 have hD1:∀ v ∈ D,v.oneCell'=true:=fun v hv=>tb_one T v (by rw[hD] at hv;exact List.mem_of_mem_drop hv)
 have hcp1:∀ ty dc sc,(Builtin.copy_ #[241,241] ty #[.slice (some ⟨g,(i+1) * 2,none⟩) (T.length+1 - (i+1)) dc,.slice (some ⟨g,i * 2,none⟩) (T.length+1 - i) sc]).run Tryz.prog w.drew = .ok (goInt ((T.length - i:Nat):Int)) (w.drew.setRow g c1.toArray):=fun ty dc sc=>by
  have h:=run_copy_rowK (P:=Tryz.prog) w.drew 241 241 ty 313 2 g ((i+1) * 2) (T.length+1 - (i+1)) dc ⟨g,i * 2,none⟩ (T.length+1 - i) sc cur 313 D Tryz.underlying241 size_entry hg (T.length - i) (by simp only[Nat.min_def];split <;> omega) hDl
   (fun j v hj=>by rw[Addr.add_lit];exact hcell j v hj) (by omega) hD1
  rw[h,hc1]
  unfold ovr
  rw[show i * 2+V.length=(i+1) * 2 by omega]
 have hg1:(w.drew.setRow g c1.toArray).heap[g]? = some (.cells c1.toArray 313 (0,0)):=setRow_heap w.drew g cur _ _ _ hg
 have hx1:(w.drew.setRow g c1.toArray).heap[x]? = some (.cells #[.int .i32 a,.int .i64 b] 313 (0,0)):=by
  rw[setRow_other w.drew g x _ hne];exact hx
 obtain⟨W1,hW1⟩:∃ W1,W1=w.drew.setRow g c1.toArray:=⟨_,rfl⟩
 rw[← hW1] at hcp1 hg1 hx1
 have hcp2:∀ (W:World),W=W1→∀ ty dc,(Builtin.copy_ #[241,241] ty #[.slice (some ⟨g,i * 2,none⟩) (T.length+1 - i) dc,.slice (some ⟨x,0,none⟩) 1 1]).run Tryz.prog W = .ok (goInt 1) (W1.setRow g c2.toArray):=fun W hW ty dc=>by
  subst hW
  have h:=run_copy_rowK (P:=Tryz.prog) W 241 241 ty 313 2 g (i * 2) (T.length+1 - i) dc ⟨x,0,none⟩ 1 1 c1.toArray 313 V Tryz.underlying241 size_entry hg1 1 (by simp only[Nat.min_def];split <;> omega) (by omega)
   (fun j v hj=>by
     rw[Addr.add_lit,cell_of_row W x _ _ _ _ hx1]
     rw[hVd] at hj
     simpa using hj) (by simp;omega) (by rw[hVd];intro v hv;simp at hv;rcases hv with rfl | rfl <;> rfl)
  rw[h,hc2]
  rfl
 have hfin:∀ W,W=W1.setRow g c2.toArray→W.ownsRow B 313 2 (.slice (some ⟨g,0,none⟩) (T.length+1) cap) (T.length+1) (tbCells (T.take i++(a,b) :: T.drop i))∧w.grownBy W (Value.ownBlock (.slice (some ⟨g,0,none⟩) T.length cap)):=fun W hW=>by
  rw[hW]
  refine⟨⟨by rw[tb_len];simp;omega,.inr ⟨g,cap,c2.toArray,rfl,hB,setRow_heap W1 g _ _ _ _ hg1,hroom,hcm,by simpa using hc2l,by simpa using hres⟩⟩,?_⟩
  refine⟨by rw[hW1];rfl,by rw[hW1];rfl,by rw[hW1];rfl,by rw[hW1];simp[World.setRow],fun k hk hkg=>?_⟩
  have hkg':k≠g:=fun e=>hkg (by rw[e];rfl)
  rw[setRow_other W1 g k _ hkg',hW1,setRow_other w.drew g k _ hkg'];rfl
 have HFIN:=hde hfin
 unfold maxLen at hcm
 have hw1:IntKind.i64.wrap ((i:Int)+1)=(i:Int)+1:=by rw[IntKind.wrap_i64];omega
 have hb1:(0:Int)≤(i:Int)+1:=by omega
 have hin:i≤T.length:=by omega
 have hin2:(i:Int)≤(T.length:Int):=by omega
 have htn:((i:Int)+1).toNat=i+1:=by omega
 have hb3:(i:Int)≤(T.length:Int)+1:=by omega
 have hz2:¬ ((i:Int)=(T.length:Int)):=by omega
 have hz3:¬ ((cap:Int) < (T.length:Int)+1):=by omega
 have hb2:¬ (cap=i+1):=by omega
 have hb4:¬ (cap=i):=by omega
 clear hfin hres hcell hD1 hD hVd hDl hVl hcl hc1 hc2 hc1l hc2l hg hx hcs htake hg1 hx1 hW1
 go_enter Tryz.func165,Tryz.ntmps165
 go_wp2_with (simp only[hov])
 go_region_law (refine step_copy_runI rfl (.tmp 73) (.tmp 76) 241 241 rfl _ _ (by simp[Act.eval,Act.put];rfl) (by simp[Act.eval,Act.put];rfl) (hcp1 _ _ _) ?_)
 go_wp2_with (first | (at_builtin;go_must (refine wpList_copy_runI _ rfl (.tmp 80) (.tmp 81) 241 241 rfl _ _ rfl rfl (hcp2 _ rfl _ _) ?_)) | go_in)
 go_wp2
 go_ret
 obtain⟨q1,q2⟩:=(uh HFIN) _ rfl
 exact⟨_,rfl,q1,q2⟩
theorem insert_grow (B x g cap i:Nat) (cur:Array Value) (T:Sp.Tb) (a b:Int) (w:World) (hi:i < T.length) (hB:B≤w.heap.size) (hcap:cap=T.length) (hl:T.length≤100000)
  (hg:w.heap[g]? = some (.cells cur 313 (0,0))) (htake:cur.toList.take (T.length * 2)=tbCells T) (hcs:T.length * 2≤cur.size)
  (hx:w.heap[x]? = some (.cells #[.int .i32 a,.int .i64 b] 313 (0,0))) :
  Calls Tryz.prog 165 #[.slice (some ⟨g,0,none⟩) T.length cap,.int .i64 i,.slice (some ⟨x,0,none⟩) 1 1] w (InsPost w B (.slice (some ⟨g,0,none⟩) T.length cap) T i a b):=by
 subst hcap
 obtain⟨i0,hi0,hz0,hzs,hzb⟩:=info_parts Tryz.info_entry
 obtain⟨D,hD⟩:∃ D,D=(tbCells T).drop (i * 2):=⟨_,rfl⟩
 obtain⟨V,hVd⟩:∃ V:List Value,V=[.int .i32 a,.int .i64 b]:=⟨_,rfl⟩
 have hDl:D.length=(T.length - i) * 2:=by rw[hD,List.length_drop,tb_len];omega
 have hVl:V.length=2:=by rw[hVd];rfl
 have hcell:∀ j v,(tbCells T)[j]? = some v→w.cell? ⟨g,j,none⟩=some v:=fun j v hj=>by
  have hjl:j < (tbCells T).length:=(List.getElem?_eq_some_iff.1 hj).1
  rw[tb_len] at hjl
  rw[cell_of_row w g _ _ _ _ hg]
  rw[← htake,List.getElem?_take,if_pos (by omega)] at hj
  simpa using hj
 have hik:i+(T.length+1 - i)=T.length+1:=by omega
 have hold:(Builtin.firstCells i0.size i (.slice (some ⟨g,0,none⟩) i T.length)).run Tryz.prog w.drew = .ok ((tbCells T).take (i * 2)).toArray w.drew:=by
  rw[hzs]
  exact run_firstCells_some w.drew 2 i ⟨g,0,none⟩ i T.length ((tbCells T).take (i * 2)) (by rw[List.length_take,tb_len];omega) (fun j v hj=>by
   rw[Addr.add_lit]
   rw[List.getElem?_take] at hj
   split at hj
   ·simpa using hcell j v hj
   ·cases hj)
 obtain⟨G,hG⟩:∃ G,G=grownCap w (T.length+1) T.length 313:=⟨_,rfl⟩
 have hGn:T.length+1≤G:=by rw[hG];exact grownCap_ge w _ _ _
 have hGm:G≤maxLen:=by rw[hG];exact grownCap_le_maxLen w _ _ _ (by unfold maxLen;omega)
 obtain⟨ROW,hROW⟩:∃ ROW:Array Value,ROW=((tbCells T).take (i * 2)).toArray++Builtin.zeroCells (Value.agg #[.int .i32 0,.int .i64 0]).cells (T.length+1 - i)++Builtin.zeroCells (Value.agg #[.int .i32 0,.int .i64 0]).cells (G - (T.length+1)):=⟨_,rfl⟩
 have hrz:∀ ty,(Builtin.append_ #[241,3] ty #[.slice (some ⟨g,0,none⟩) i T.length,.int .i64 ((T.length:Int)+1 - (i:Int))]).run Tryz.prog w =
   .ok (.slice (some ⟨w.heap.size,0,none⟩) (T.length+1) G) (w.drew.alloc (.cells ROW 313)):=fun ty=>by
  have h:=Lib.run_append_grow_zeros w 241 3 ty 313 i0 _ .i64 .i64 Tryz.underlying241 Tryz.underlying3 hi0 hz0 (some ⟨g,0,none⟩) i T.length ((tbCells T).take (i * 2)) hold (T.length+1 - i) (by omega) (by omega) (by omega) (by omega) (by rw[hzb];omega) (by rw[hzb,hik];exact growslice_fits (by omega) (by omega))
  rw[hik] at h
  rw[show (T.length:Int)+1 - (i:Int)=((T.length+1 - i:Nat):Int) by omega,hROW,hG]
  exact h
 have hRl:ROW.toList.length=G * 2:=by
  rw[hROW]
  simp[Builtin.zeroCells,Value.cells,tb_len]
  omega
 have hRt:ROW.toList.take (i * 2)=(tbCells T).take (i * 2):=by
  rw[hROW]
  simp only[Array.toList_append,List.append_assoc]
  rw[List.take_append_of_le_length (by simp[tb_len];omega)]
  exact(List.take_take ..).trans (by rw[Nat.min_self])
 obtain⟨c1,hc1⟩:∃ c1,c1=ovr ROW.toList (i * 2) V:=⟨_,rfl⟩
 obtain⟨c2,hc2⟩:∃ c2,c2=ovr c1 (i * 2+V.length) D:=⟨_,rfl⟩
 have hc1l:c1.length=G * 2:=by rw[hc1,ovr_len _ _ _ (by omega)];exact hRl
 have hc2l:c2.length=G * 2:=by rw[hc2,ovr_len _ _ _ (by omega)];exact hc1l
 have hres:c2.take ((T.length+1) * 2)=tbCells (T.take i++(a,b) :: T.drop i):=by
  have e:=ovr_grow ROW.toList (i * 2) V D (by omega)
  rw[← hc1,← hc2] at e
  have e2:i * 2+V.length+D.length=(T.length+1) * 2:=by omega
  rw[e2] at e
  rw[e,← tb_ins,← hVd,← hD,hRt]
 have hgw:g < w.heap.size:=lt_of_block hg
 have hxw:x < w.heap.size:=lt_of_block hx
 obtain⟨W1,hW1⟩:∃ W1,W1=w.drew.alloc (.cells ROW 313):=⟨_,rfl⟩
 have hgR:W1.heap[w.heap.size]? = some (.cells ROW 313 (0,0)):=by rw[hW1];exact heap_alloc_new w.drew _
 have hx1:W1.heap[x]? = some (.cells #[.int .i32 a,.int .i64 b] 313 (0,0)):=by rw[hW1,Below.heap_alloc w.drew _ x hxw];exact hx
 have hg1:W1.heap[g]? = some (.cells cur 313 (0,0)):=by rw[hW1,Below.heap_alloc w.drew _ g hgw];exact hg
 rw[← hW1] at hrz
 have hcpA:∀ W,W=W1→∀ ty dc,(Builtin.copy_ #[241,241] ty #[.slice (some ⟨w.heap.size,i * 2,none⟩) (T.length+1 - i) dc,.slice (some ⟨x,0,none⟩) 1 1]).run Tryz.prog W = .ok (goInt 1) (W1.setRow w.heap.size c1.toArray):=fun W hW ty dc=>by
  subst hW
  have h:=run_copy_rowK (P:=Tryz.prog) W 241 241 ty 313 2 w.heap.size (i * 2) (T.length+1 - i) dc ⟨x,0,none⟩ 1 1 ROW 313 V Tryz.underlying241 size_entry hgR 1 (by simp only[Nat.min_def];split <;> omega) (by omega)
   (fun j v hj=>by
     rw[Addr.add_lit,cell_of_row W x _ _ _ _ hx1]
     rw[hVd] at hj
     simpa using hj) (by rw[← Array.length_toList,hRl];omega) (by rw[hVd];intro v hv;simp at hv;rcases hv with rfl | rfl <;> rfl)
  rw[h,hc1]
  rfl
 obtain⟨W2,hW2⟩:∃ W2,W2=W1.setRow w.heap.size c1.toArray:=⟨_,rfl⟩
 have hgR2:W2.heap[w.heap.size]? = some (.cells c1.toArray 313 (0,0)):=by rw[hW2];exact setRow_heap W1 _ _ _ _ _ hgR
 have hg2:W2.heap[g]? = some (.cells cur 313 (0,0)):=by rw[hW2,setRow_other W1 _ g _ (by omega)];exact hg1
 rw[← hW2] at hcpA
 have hcpB:∀ W,W=W2.drew→∀ ty dc sc,(Builtin.copy_ #[241,241] ty #[.slice (some ⟨w.heap.size,(i+1) * 2,none⟩) (T.length+1 - (i+1)) dc,.slice (some ⟨g,i * 2,none⟩) (T.length - i) sc]).run Tryz.prog W = .ok (goInt ((T.length - i:Nat):Int)) (W2.drew.setRow w.heap.size c2.toArray):=fun W hW ty dc sc=>by
  subst hW
  have h:=run_copy_rowK (P:=Tryz.prog) W2.drew 241 241 ty 313 2 w.heap.size ((i+1) * 2) (T.length+1 - (i+1)) dc ⟨g,i * 2,none⟩ (T.length - i) sc c1.toArray 313 D Tryz.underlying241 size_entry hgR2 (T.length - i) (by simp only[Nat.min_def];split <;> omega) hDl
   (fun j v hj=>by
     rw[Addr.add_lit]
     refine(cell_of_row W2.drew g _ _ _ _ hg2).trans ?_
     rw[← cell_of_row w g _ _ _ _ hg]
     exact hcell _ v (by rw[hD,List.getElem?_drop] at hj;exact hj)) (by simp;omega) (fun v hv=>tb_one T v (by rw[hD] at hv;exact List.mem_of_mem_drop hv))
  rw[h,hc2]
  unfold ovr
  rw[show i * 2+V.length=(i+1) * 2 by omega]
 have hfin:∀ W,W=W2.drew.setRow w.heap.size c2.toArray→W.ownsRow B 313 2 (.slice (some ⟨w.heap.size,0,none⟩) (T.length+1) G) (T.length+1) (tbCells (T.take i++(a,b) :: T.drop i))∧w.grownBy W (Value.ownBlock (.slice (some ⟨g,0,none⟩) T.length T.length)):=fun W hW=>by
  rw[hW]
  refine⟨⟨by rw[tb_len];simp;omega,.inr ⟨w.heap.size,G,c2.toArray,rfl,hB,setRow_heap W2.drew _ _ _ _ _ hgR2,hGn,hGm,by simpa using hc2l,by simpa using hres⟩⟩,?_⟩
  refine⟨by rw[hW2,hW1];rfl,by rw[hW2,hW1];rfl,by rw[hW2,hW1];rfl,by rw[hW2,hW1];simp[World.setRow],fun k hk hkg=>?_⟩
  rw[setRow_other W2.drew _ k _ (by omega)]
  show W2.heap[k]? = _
  rw[hW2,setRow_other W1 _ k _ (by omega),hW1,Below.heap_alloc w.drew _ k hk];rfl
 have HFIN:=hde hfin
 unfold maxLen at hGm
 have hw1:IntKind.i64.wrap ((i:Int)+1)=(i:Int)+1:=by rw[IntKind.wrap_i64];omega
 have hb1:(0:Int)≤(i:Int)+1:=by omega
 have hin:i≤T.length:=by omega
 have hin2:(i:Int)≤(T.length:Int):=by omega
 have htn:((i:Int)+1).toNat=i+1:=by omega
 have hb3:(i:Int)≤(T.length:Int)+1:=by omega
 have hz2:¬ ((i:Int)=(T.length:Int)):=by omega
 have hGi:¬ (G=i):=by omega
 have hGim:¬ (G=i+1):=by omega
 have hci:¬ (T.length=i):=by omega
 clear hfin hres hcell hD hVd hDl hVl hc1 hc2 hc1l hc2l hg hx hcs htake hg1 hx1 hW1 hW2 hgR hgR2 hg2 hRl hRt hROW hG hold hik
 go_enter Tryz.func165,Tryz.ntmps165
 go_wp2_with (first
  | (at_builtin;refine Lib.wpList_append_run _ rfl (.tmp 34) (.tmp 39) _ _ rfl _ _ rfl rfl _ _ (hrz _) ?_)
  | (at_builtin;refine wpList_copy_runI _ rfl (.tmp 43) (.tmp 44) 241 241 rfl _ _ rfl rfl (hcpA _ rfl _ _) ?_))
 go_region_law (refine step_copy_runI rfl (.tmp 50) (.tmp 53) 241 241 rfl _ _ (by simp[Act.eval,Act.put];rfl) (by simp[Act.eval,Act.put];rfl) (hcpB _ rfl _ _ _) ?_)
 go_wp2
 go_ret
 obtain⟨q1,q2⟩:=(uh HFIN) _ rfl
 exact⟨_,rfl,q1,q2⟩
theorem insert_any (B x:Nat) (v:Value) (T:Sp.Tb) (i:Nat) (a b:Int) (w:World) (hi:i≤T.length) (hB:B≤w.heap.size) (h:w.ownsRow B 313 2 v T.length (tbCells T)) (hl:T.length≤100000)
  (hne:v.ownBlock≠some x) (hx:w.heap[x]? = some (.cells #[.int .i32 a,.int .i64 b] 313 (0,0))) :
  Calls Tryz.prog 165 #[v,.int .i64 i,.slice (some ⟨x,0,none⟩) 1 1] w (InsPost w B v T i a b):=by
 by_cases he:i=T.length
 ·subst he;exact insert_end B x v T a b w hB h hl hx
 ·rcases h.2 with ⟨hv,hn⟩ | ⟨g,cap,cur,hv,hBg,hgg,hnc,hcm,hcs,htake⟩
  ·omega
  ·subst hv
   by_cases hr:T.length+1≤cap
   ·exact insert_room B x g cap i cur T a b w (by omega) hBg hr hcm hl (fun e=>hne (by rw[e];rfl)) hgg hcs htake hx
   ·exact insert_grow B x g cap i cur T a b w (by omega) hB (by omega) hl hgg htake (by omega) hx
def AddPost (t B:Nat) (T:Sp.Tb) (y v:Int) (w:World) (e:Ending) (w':World):Prop :=
 Below t w w'∧e = .returned (.bool (!Sp.thas T y))∧TabAt w' B t (if Sp.thas T y=true then T else Sp.tins T y v)
theorem add_any (t B:Nat) (T:Sp.Tb) (y v:Int) (w:World) (h:TabAt w B t T) (hT:Sp.tsorted T) (ht:t < B) (hB:B≤w.heap.size) (hl:T.length≤100000) :
  Calls Tryz.prog 114 #[.pointer (some ⟨t,0,none⟩),.int .i32 y,.int .i64 v] w (AddPost t B T y v w):=by
 cases hh:Sp.thas T y with
 | true =>
  have HH:=hde hh
  have HTAB:=hde h
  clear hh h
  go_enter Tryz.func114,Tryz.ntmps114
  go_wp2_with fail
  refine(tplace_any t B T y w (uh HTAB) hT hl).mono ?_
  rintro e w' ⟨rfl,hb⟩
  rw[uh HH]
  go_wp2
  go_ret
  refine⟨hb.mono (by omega),by rw[uh HH];rfl,?_⟩
  rw[if_pos (uh HH)]
  exact(uh HTAB).below hb
 | false =>
  have HH:=hde hh
  have HTAB:=hde h
  clear hh h
  go_enter Tryz.func114,Tryz.ntmps114
  go_wp2_with fail
  refine(tplace_any t B T y w (uh HTAB) hT hl).mono ?_
  rintro e w1 ⟨rfl,hb⟩
  rw[uh HH]
  obtain⟨u,hu,ho⟩:=(uh HTAB).below hb
  have hc:=tab_cell hu
  have hB1:B≤w1.heap.size:=Nat.le_trans hB hb.size
  have ht1:t < w1.heap.size:=by omega
  have hcs:(w1.alloc (.cells #[.int .i32 y,.int .i64 v] 313)).heap[t]? = some (.cells #[u] 243 (0,0)):=by rw[Below.heap_alloc _ _ _ ht1];exact hu
  have HCS:=hde hcs
  have HO:=hde ho
  have hform:=osl ho
  obtain⟨p,cap,rfl,_⟩:=hform
  have hlow:=Sp.tlow_le T y
  clear hu ho hcs
  go_wp2_with fail
  refine(insert_any B w1.heap.size (.slice p T.length cap) T (Sp.tlow T y) y v _ hlow (by simp;omega) ((uh HO).alloc _) hl (fun hq=>by have:=((uh HO).lt _ hq).2;omega) (heap_alloc_new w1 _)).mono ?_
  rintro e w2 ⟨v',rfl,ho2,hg2⟩
  have htb:w2.heap[t]? = some (.cells #[.slice p T.length cap] 243 (0,0)):=by
   rw[hg2.block t (by simp;omega) (fun hq=>by have:=((uh HO).lt _ hq.symm).1;omega)];exact uh HCS
  have hc2:=tab_cell htb
  have hf2:w2.frozen? ⟨t,0,none⟩=false:=by simp[World.frozen?,htb]
  obtain⟨p',cap',rfl,_⟩:=osl ho2
  have HTB:=hde htb
  clear htb hc
  go_wp2
  go_ret
  have hbl:Below t w w2:=(hb.mono (by omega)).trans ⟨hg2.os,hg2.tape,hg2.output,by have:=hg2.size;simp at this;omega,fun k hk=>by
   rw[hg2.block k (by simp;omega) (fun hq=>by have:=((uh HO).lt _ hq.symm).1;omega),Below.heap_alloc _ _ _ (by omega)]⟩
  refine⟨hbl.setCell nlr _,by rw[uh HH];rfl,?_⟩
  rw[if_neg (by rw[uh HH];decide)]
  refine⟨.slice p' (T.length+1) cap',?_,?_⟩
  ·rw[heap_setCell_same w2 t 0 _ _ _ (uh HTB)];rfl
  ·rw[Sp.tins_len]
   exact ownsRow_setCell_below ho2 ht _
end Go.Proofs.YteflnddphpjahaaGreatDoor
namespace Go.Proofs.YteflnddphpjahaaGreatDoor.Sp
open Go
def gv:List (Option Ln)→Nat→Tb→Except Nat Tb
 | [],_,T=>.ok T
 | none :: r,k,T=>gv r (k+1) T
 | some l :: r,k,T=>if l.edge=true then gv r (k+1) T else if thas T l.frm=true then .error k else gv r (k+1) (tins T l.frm l.n)
theorem gv_end {P:List (Option Ln)} {k:Nat} (h:P.length≤k) (T:Tb):gv (P.drop k) k T = .ok T:=by
 rw[List.drop_of_length_le h];rfl
theorem gv_skip {P:List (Option Ln)} {k:Nat} (h:k < P.length) (T:Tb) (he:¬ pk P[k]=1):gv (P.drop k) k T=gv (P.drop (k+1)) (k+1) T:=by
 rw[List.drop_eq_getElem_cons h]
 cases hp:P[k] with
 | none=>rfl
 | some l =>
  rw[hp] at he
  have:l.edge=true:=by
   cases hq:l.edge with
   | true=>rfl
   | false=>exact absurd (by simp[pk,hq]) he
  simp only[gv,this,if_true]
theorem pk_one {p:Option Ln} (h:pk p=1):∃ l,p=some l∧l.edge=false∧pa p=l.frm∧pn p=l.n:=by
 cases p with
 | none=>simp[pk] at h
 | some l =>
  cases hq:l.edge with
  | true=>simp[pk,hq] at h
  | false=>exact⟨l,rfl,hq,rfl,rfl⟩
theorem pk_two {p:Option Ln} (h:pk p=2):∃ l,p=some l∧l.edge=true∧pa p=l.frm∧pb p=l.to∧pn p=l.n:=by
 cases p with
 | none=>simp[pk] at h
 | some l =>
  cases hq:l.edge with
  | false=>simp[pk,hq] at h
  | true=>exact⟨l,rfl,hq,rfl,by simp[pb,hq],rfl⟩
theorem gv_twice {P:List (Option Ln)} {k:Nat} (h:k < P.length) (T:Tb) (he:pk P[k]=1) (ht:thas T (pa P[k])=true):gv (P.drop k) k T = .error k:=by
 rw[List.drop_eq_getElem_cons h]
 obtain⟨l,hp,h1,h2,h3⟩:=pk_one he
 rw[h2] at ht
 rw[hp]
 simp only[gv,h1,ht];rfl
theorem gv_add {P:List (Option Ln)} {k:Nat} (h:k < P.length) (T:Tb) (he:pk P[k]=1) (ht:thas T (pa P[k])=false):gv (P.drop k) k T=gv (P.drop (k+1)) (k+1) (tins T (pa P[k]) (pn P[k])):=by
 rw[List.drop_eq_getElem_cons h]
 obtain⟨l,hp,h1,h2,h3⟩:=pk_one he
 rw[h2,h3]
 rw[h2] at ht
 rw[hp]
 simp only[gv,h1,ht];rfl
def ge (T:Tb):List (Option Ln)→Nat→List Ed→Except Nat (List Ed)
 | [],_,E=>.ok E
 | none :: r,k,E=>ge T r (k+1) E
 | some l :: r,k,E=>if l.edge=true then (if thas T l.frm=true∧thas T l.to=true then ge T r (k+1) (E++[⟨tlow T l.frm,tlow T l.to,l.n⟩]) else .error k) else ge T r (k+1) E
theorem ge_end {T:Tb} {P:List (Option Ln)} {k:Nat} (h:P.length≤k) (E:List Ed):ge T (P.drop k) k E = .ok E:=by
 rw[List.drop_of_length_le h];rfl
theorem ge_skip {T:Tb} {P:List (Option Ln)} {k:Nat} (h:k < P.length) (E:List Ed) (he:¬ pk P[k]=2):ge T (P.drop k) k E=ge T (P.drop (k+1)) (k+1) E:=by
 rw[List.drop_eq_getElem_cons h]
 cases hp:P[k] with
 | none=>rfl
 | some l =>
  rw[hp] at he
  have:l.edge=false:=by
   cases hq:l.edge with
   | false=>rfl
   | true=>exact absurd (by simp[pk,hq]) he
  simp only[ge,this];rfl
theorem ge_loose {T:Tb} {P:List (Option Ln)} {k:Nat} (h:k < P.length) (E:List Ed) (he:pk P[k]=2) (ht:¬ (thas T (pa P[k])=true∧thas T (pb P[k])=true)):ge T (P.drop k) k E = .error k:=by
 rw[List.drop_eq_getElem_cons h]
 obtain⟨l,hp,h1,h2,h3,h4⟩:=pk_two he
 rw[h2,h3] at ht
 rw[hp]
 simp only[ge,h1,ht,if_true,if_false]
theorem ge_add {T:Tb} {P:List (Option Ln)} {k:Nat} (h:k < P.length) (E:List Ed) (he:pk P[k]=2) (ha:thas T (pa P[k])=true) (hb:thas T (pb P[k])=true):ge T (P.drop k) k E=ge T (P.drop (k+1)) (k+1) (E++[⟨tlow T (pa P[k]),tlow T (pb P[k]),pn P[k]⟩]):=by
 rw[List.drop_eq_getElem_cons h]
 obtain⟨l,hp,h1,h2,h3,h4⟩:=pk_two he
 rw[h2] at ha
 rw[h3] at hb
 rw[h2,h3,h4,hp]
 simp only[ge,h1,ha,hb,and_self,if_true]
end Go.Proofs.YteflnddphpjahaaGreatDoor.Sp
namespace Go.Proofs.YteflnddphpjahaaGreatDoor
open Go.RowKit
def PLsAt (w:World) (p:Option Addr) (P:List (Option Sp.Ln)):Prop := ∀ j (h:j < P.length),∃ g,p=some ⟨g,0,none⟩∧g < w.heap.size∧w.cell? ⟨g,j * 4,none⟩=some (.int .i64 (Sp.pk P[j]))∧w.cell? ⟨g,j * 4+1,none⟩=some (.int .i32 (Sp.pa P[j]))∧w.cell? ⟨g,j * 4+2,none⟩=some (.int .i32 (Sp.pb P[j]))∧w.cell? ⟨g,j * 4+3,none⟩=some (.int .i64 (Sp.pn P[j]))
theorem PLsAt.below {w w':World} {p:Option Addr} {P:List (Option Sp.Ln)} (h:PLsAt w p P) (hb:Below w.heap.size w w'):PLsAt w' p P:=fun j hj=>by
 obtain⟨g,e,hg,c0,c1,c2,c3⟩:=h j hj
 have:=hb.size
 exact⟨g,e,by omega,(hb.cell (p:=⟨g,_,none⟩) hg).trans c0,(hb.cell (p:=⟨g,_,none⟩) hg).trans c1,(hb.cell (p:=⟨g,_,none⟩) hg).trans c2,(hb.cell (p:=⟨g,_,none⟩) hg).trans c3⟩
theorem pls_get (P:List (Option Sp.Ln)):∀ (k:Nat) (h:k < P.length),(plsCells P)[k * 4]? = some (.int .i64 (Sp.pk P[k]))∧(plsCells P)[k * 4+1]? = some (.int .i32 (Sp.pa P[k]))∧(plsCells P)[k * 4+2]? = some (.int .i32 (Sp.pb P[k]))∧(plsCells P)[k * 4+3]? = some (.int .i64 (Sp.pn P[k])):=by
 induction P with
 | nil=>intro k h;simp at h
 | cons l L ih =>
  intro k h
  cases k with
  | zero=>exact⟨rfl,rfl,rfl,rfl⟩
  | succ k =>
   have:=ih k (by simpa using h)
   have e:plsCells (l :: L)=plCells l++plsCells L:=by simp[plsCells]
   rw[e]
   have hl:(plCells l).length=4:=rfl
   rw[show (k+1) * 4=4+k * 4 by omega,show 4+k * 4+1=4+(k * 4+1) by omega,show 4+k * 4+2=4+(k * 4+2) by omega,show 4+k * 4+3=4+(k * 4+3) by omega]
   rw[List.getElem?_append_right (by omega),List.getElem?_append_right (by omega),List.getElem?_append_right (by omega),List.getElem?_append_right (by omega),hl]
   simpa using this
theorem pls_of_own {w:World} {B:Nat} {v:Value} {P:List (Option Sp.Ln)} (h:w.ownsRow B 238 4 v P.length (plsCells P)):∃ p cap,v = .slice p P.length cap∧PLsAt w p P:=by
 obtain⟨p,cap,hv,hc⟩:=osl h
 refine⟨p,cap,hv,fun k hk=>?_⟩
 obtain⟨e0,e1,e2,e3⟩:=pls_get P k hk
 obtain⟨g,hp,_,hg,c0⟩:=hc (k * 4) (by omega)
 obtain⟨g1,hp1,_,_,c1⟩:=hc (k * 4+1) (by omega)
 obtain⟨g2,hp2,_,_,c2⟩:=hc (k * 4+2) (by omega)
 obtain⟨g3,hp3,_,_,c3⟩:=hc (k * 4+3) (by omega)
 have q1:g1=g:=by rw[hp] at hp1;injection hp1 with q;injection q with q;exact q.symm
 have q2:g2=g:=by rw[hp] at hp2;injection hp2 with q;injection q with q;exact q.symm
 have q3:g3=g:=by rw[hp] at hp3;injection hp3 with q;injection q with q;exact q.symm
 subst q1 q2 q3
 exact⟨_,hp,hg,c0.trans e0,c1.trans e1,c2.trans e2,c3.trans e3⟩
def VertPost (P:List (Option Sp.Ln)) (w:World) (e:Ending) (w':World):Prop :=
 Below w.heap.size w w'∧match Sp.gv P 0 [] with
  | .error k=>e = .returned (.tuple #[.pointer none,.int .i64 (k:Nat),.bool false])
  | .ok T=>e = .returned (.tuple #[.pointer (some ⟨w.heap.size,0,none⟩),.int .i64 0,.bool true])∧TabAt w' (w.heap.size+1) w.heap.size T∧Sp.tsorted T∧T.length≤P.length
theorem gatherVertices_any (p:Option Addr) (cap:Nat) (P:List (Option Sp.Ln)) (w:World) (h:PLsAt w p P) (hl:P.length≤5000):Calls Tryz.prog 63 #[.slice p P.length cap] w (VertPost P w):=by
 go_enter Tryz.func63,Tryz.ntmps63
 go_wp2
 go_loopw [11] (fun i wr=>∃ (k:Nat) (T:Sp.Tb),k≤P.length∧T.length≤k∧i = .int .i64 k∧TabAt wr (w.heap.size+1) w.heap.size T∧Hid (Sp.tsorted T)∧Below w.heap.size w wr∧w.heap.size+1≤wr.heap.size∧Hid (Sp.gv (P.drop k) k T=Sp.gv P 0 [])) (fun i _=>P.length - (intOf i).toNat)
 case atStart=>exact⟨0,[],Nat.zero_le _,Nat.zero_le _,rfl,⟨.slice none 0 0,heap_alloc_new w _,World.ownsRow_nil _ _ _ _⟩,List.Pairwise.nil,(Below.refl _ _).alloc nlr _,by simp,rfl⟩
 case round =>
  obtain⟨k,T,hk,hTk,rfl,hTab,HS,hbw,hz,HR⟩:=hrel
  by_cases hlt:k < P.length
  ·obtain⟨g,rfl,hgl,c0,c1,c2,c3⟩:=(h.below hbw) k hlt
   have hTabA:=hTab.below ((Below.refl wr.heap.size wr).alloc nlr (.cells #[.int .i64 (Sp.pk P[k]),.int .i32 (Sp.pa P[k]),.int .i32 (Sp.pb P[k]),.int .i64 (Sp.pn P[k])] 238))
   have hbA:=hbw.alloc hbw.size (.cells #[.int .i64 (Sp.pk P[k]),.int .i32 (Sp.pa P[k]),.int .i32 (Sp.pb P[k]),.int .i64 (Sp.pn P[k])] 238)
   have HTA:=hde hTabA
   have HBA:=hde hbA
   have HG1:=hde (fun he=>Sp.gv_skip hlt T (he:=he))
   have HG2:=hde (fun he ht=>Sp.gv_twice hlt T (he:=he) (ht:=ht))
   have HG3:=hde (fun he ht=>Sp.gv_add hlt T (he:=he) (ht:=ht))
   clear hTabA hbA hTab
   generalize Sp.pk P[k]=K at *
   generalize Sp.pa P[k]=A at *
   generalize Sp.pb P[k]=Bb at *
   generalize Sp.pn P[k]=N at *
   have hz2:w.heap.size < wr.heap.size:=by omega
   by_cases hK:K=1
   ·subst hK
    cases hh:Sp.thas T A with
    | true =>
     have HH:=hde hh
     clear hh
     go_wp2_with (go_at_call 114;go_must (refine(add_any w.heap.size (w.heap.size+1) T A N _ (uh HTA) (uh HS) (by omega) (by simp;omega) (by omega)).mono ?_;rintro e w2 ⟨hb2,rfl,ht2⟩;rw[uh HH]))
     exact bodyPost_ret (v := .tuple #[.pointer none,.int .i64 k,.bool false]) (by simp[results,Tryz.results63,go_sem]) rfl ⟨(uh HBA).trans hb2,by rw[← uh HR,(uh HG2) (by trivial) (uh HH)]⟩
    | false =>
     have HH:=hde hh
     clear hh
     go_wp2_with (go_at_call 114;go_must (refine(add_any w.heap.size (w.heap.size+1) T A N _ (uh HTA) (uh HS) (by omega) (by simp;omega) (by omega)).mono ?_;rintro e w2 ⟨hb2,rfl,ht2⟩;rw[uh HH]))
     have hz3:=hb2.size
     simp at hz3
     rw[uh HH] at ht2
     go_roundw
     case rel =>
      exact⟨k+1,Sp.tins T A N,by omega,by rw[Sp.tins_len];omega,by go_num,ht2,Sp.tins_sorted (uh HS) (uh HH),(uh HBA).trans hb2,by omega,by show _=_;rw[← uh HR];exact((uh HG3) (by trivial) (uh HH)).symm⟩
     case measure=>simp[intOf];omega
   ·have hK1:(K == 1)=false:=beq_eq_false_iff_ne.2 hK
    have HK:=hde hK
    clear hK
    go_wp2
    go_roundw
    case rel =>
     exact⟨k+1,T,by omega,by omega,by go_num,uh HTA,HS,uh HBA,by simp;omega,by show _=_;rw[← uh HR];exact((uh HG1) (uh HK)).symm⟩
    case measure=>simp[intOf];omega
  ·go_wp2
   refine bodyPost_ret (v := .tuple #[.pointer (some ⟨w.heap.size,0,none⟩),.int .i64 0,.bool true]) (by simp[results,Tryz.results63,go_sem]) rfl ⟨hbw,?_⟩
   rw[← uh HR,Sp.gv_end (by omega) T]
   exact⟨rfl,hTab,uh HS,by omega⟩
def EdgPost (P:List (Option Sp.Ln)) (T:Sp.Tb) (w:World) (e:Ending) (w':World):Prop :=
 Below w.heap.size w w'∧match Sp.ge T P 0 [] with
  | .error k=>e = .returned (.tuple #[.slice none 0 0,.int .i64 (k:Nat),.bool false])
  | .ok E=>∃ v,e = .returned (.tuple #[v,.int .i64 0,.bool true])∧w'.ownsRow w.heap.size 67 3 v E.length (edCells E)∧E.length≤P.length
theorem gatherEdges_any (p:Option Addr) (cap t B:Nat) (P:List (Option Sp.Ln)) (T:Sp.Tb) (w:World) (h:PLsAt w p P) (hl:P.length≤5000) (hT:TabAt w B t T) (hS:Sp.tsorted T) (hTl:T.length≤100000) :
  Calls Tryz.prog 64 #[.slice p P.length cap,.pointer (some ⟨t,0,none⟩)] w (EdgPost P T w):=by
 obtain⟨i0,hi,hz0,hz1,hz2⟩:=info_parts Tryz.info_edge
 have HT:=hde hT
 have HS:=hde hS
 clear hT hS
 go_enter Tryz.func64,Tryz.ntmps64
 go_wp2
 go_loopw [7,16] (fun v i wr=>∃ (k:Nat) (E:List Sp.Ed),k≤P.length∧E.length≤k∧i = .int .i64 k∧wr.ownsRow w.heap.size 67 3 v E.length (edCells E)∧Below w.heap.size w wr∧Hid (Sp.ge T (P.drop k) k E=Sp.ge T P 0 [])) (fun _ i _=>P.length - (intOf i).toNat)
 case atStart=>exact⟨0,[],Nat.zero_le _,Nat.zero_le _,rfl,World.ownsRow_nil _ _ _ _,Below.refl _ _,rfl⟩
 case round =>
  obtain⟨k,E,hk,hEk,rfl,ho,hbw,HR⟩:=hrel
  by_cases hlt:k < P.length
  ·obtain⟨g,rfl,hgl,c0,c1,c2,c3⟩:=(h.below hbw) k hlt
   have hbA:=hbw.alloc hbw.size (.cells #[.int .i64 (Sp.pk P[k]),.int .i32 (Sp.pa P[k]),.int .i32 (Sp.pb P[k]),.int .i64 (Sp.pn P[k])] 238)
   have hoA:=ho.alloc (.cells #[.int .i64 (Sp.pk P[k]),.int .i32 (Sp.pa P[k]),.int .i32 (Sp.pb P[k]),.int .i64 (Sp.pn P[k])] 238)
   have HBA:=hde hbA
   have HOA:=hde hoA
   have HG1:=hde (fun he=>Sp.ge_skip (T:=T) hlt E (he:=he))
   have HG2:=hde (fun he ht=>Sp.ge_loose (T:=T) hlt E (he:=he) (ht:=ht))
   have HG3:=hde (fun he ha hb=>Sp.ge_add (T:=T) hlt E (he:=he) (ha:=ha) (hb:=hb))
   clear hbA hoA ho
   generalize Sp.pk P[k]=K at *
   generalize Sp.pa P[k]=A at *
   generalize Sp.pb P[k]=Bb at *
   generalize Sp.pn P[k]=N at *
   by_cases hK:K=2
   ·subst hK
    have hk2:((2:Int) != 2)=false:=by decide
    go_wp2_with fail
    refine(tplace_any t B T A _ ((uh HT).below (uh HBA)) (uh HS) hTl).mono ?_
    rintro e w1 ⟨rfl,hb1⟩
    have y0:=hb1.cell (p:=⟨wr.heap.size,0,none⟩) (by simp)
    have y1:=hb1.cell (p:=⟨wr.heap.size,1,none⟩) (by simp)
    have y2:=hb1.cell (p:=⟨wr.heap.size,2,none⟩) (by simp)
    have y3:=hb1.cell (p:=⟨wr.heap.size,3,none⟩) (by simp)
    simp at y0 y1 y2 y3
    have hbB:=(uh HBA).trans (hb1.mono (uh HBA).size)
    have HBB:=hde hbB
    have HOB:=hde (obl (uh HOA) hb1)
    have hwz:wr.heap.size < w1.heap.size:=by have:=hb1.size;simp at this;omega
    clear hbB hb1
    generalize hta:Sp.thas T A=ta
    have HA:=hde hta
    clear hta
    go_wp2_with fail
    refine(tplace_any t B T Bb _ ((uh HT).below (uh HBB)) (uh HS) hTl).mono ?_
    rintro e w2 ⟨rfl,hb2⟩
    have u0:=(hb2.cell (p:=⟨wr.heap.size,0,none⟩) hwz).trans y0
    have u1:=(hb2.cell (p:=⟨wr.heap.size,1,none⟩) hwz).trans y1
    have u2:=(hb2.cell (p:=⟨wr.heap.size,2,none⟩) hwz).trans y2
    have u3:=(hb2.cell (p:=⟨wr.heap.size,3,none⟩) hwz).trans y3
    have hbC:=(uh HBB).trans (hb2.mono (uh HBB).size)
    have hoC:=obl (uh HOB) hb2
    have hzC:=hbC.size
    clear hb2 y0 y1 y2 y3
    generalize htb:Sp.thas T Bb=tb
    have HB2:=hde htb
    clear htb
    cases ta with
    | false =>
     cases tb with
     | _ =>
      go_wp2
      exact bodyPost_ret (v := .tuple #[.slice none 0 0,.int .i64 k,.bool false]) (by simp[results,Tryz.results64,go_sem]) rfl ⟨hbC,by rw[← uh HR,(uh HG2) (by trivial) (fun hq=>by rw[uh HA] at hq;cases hq.1)]⟩
    | true =>
     cases tb with
     | false =>
      go_wp2
      exact bodyPost_ret (v := .tuple #[.slice none 0 0,.int .i64 k,.bool false]) (by simp[results,Tryz.results64,go_sem]) rfl ⟨hbC,by rw[← uh HR,(uh HG2) (by trivial) (fun hq=>by rw[uh HB2] at hq;cases hq.2)]⟩
     | true =>
      go_wp2_with (first
       | (at_builtin;go_must (refine wpList_append_own _ rfl (.tmp 45) (.tmp 51) 63 rfl w.heap.size 67 i0 _ 3 24 Tryz.underlying63 hi hz0 hz1 hz2 rfl (by decide) _ _ _ rfl (hoC.alloc _) ⟨w2.heap.size,0,none⟩ 1 1 [.int .i64 (Sp.tlow T A:Nat),.int .i64 (Sp.tlow T Bb:Nat),.int .i64 N] rfl rfl ?c1 ?c2 ?c3 ?c4 ?c5 ?_))
       | go_in)
      case c1 =>
       intro j u hj
       match j,hj with
       | 0,hj=>simp at hj;subst hj;simp[Addr.add]
       | 1,hj=>simp at hj;subst hj;simp[Addr.add]
       | 2,hj=>simp at hj;subst hj;simp[Addr.add]
      case c2=>intro u hu;simp at hu;rcases hu with rfl | rfl | rfl <;> rfl
      case c3=>unfold maxLen;omega
      case c4=>omega
      case c5=>simp;omega
      intro v3 w3 ho3 hg3 _
      have hbw3:=rel_app (ys:=[]) (v':=v3) (by simp;omega) (hoC.alloc _) (hbC.alloc hzC _) hg3
      clear hg3 hoC hbC
      go_wp2
      go_roundw
      case rel =>
       exact⟨k+1,E++[⟨Sp.tlow T A,Sp.tlow T Bb,N⟩],by omega,by simp;omega,by go_num,by simpa [edCells,List.flatMap_append] using ho3,hbw3,by
        show _=_;rw[← uh HR];exact((uh HG3) (by trivial) (uh HA) (uh HB2)).symm⟩
      case measure=>simp[intOf];omega
   ·have hK1:(K != 2)=true:=by rw[bne_iff_ne];exact hK
    have HK:=hde hK
    clear hK
    go_wp2
    go_roundw
    case rel =>
     exact⟨k+1,E,by omega,by omega,by go_num,uh HOA,uh HBA,by show _=_;rw[← uh HR];exact((uh HG1) (uh HK)).symm⟩
    case measure=>simp[intOf];omega
  ·go_wp2
   refine bodyPost_ret (v := .tuple #[u7,.int .i64 0,.bool true]) (by simp[results,Tryz.results64,go_sem]) rfl ⟨hbw,?_⟩
   rw[← uh HR,Sp.ge_end (by omega) E]
   exact⟨_,rfl,ho,by omega⟩
end Go.Proofs.YteflnddphpjahaaGreatDoor
