import Derived.Test.YteflnddphpjahaaGreatDoorCnDtAtoDtB
import Derived.Deep.DeepMust
import Derived.Deep.RegionLaw
import Derived.Test.YteflnddphpjahaaGreatDoorCnPlAtoCom
import Derived.WalkKit
set_option linter.unusedVariables false
set_option linter.unusedSimpArgs false
set_option maxRecDepth 100000
set_option maxHeartbeats 16000000
namespace Go.Proofs.YteflnddphpjahaaGreatDoor.Dk
open Go.RowKit
theorem size_entry:(Tryz.prog.info? 419).map (·.size)=some 2:=by
 obtain⟨i0,hi,hz0,hz1,hz2⟩:=info_parts Tryz.info_entry
 rw[hi];simp[hz1]
theorem sizeOf_entry (w:World):(Go.sizeOf 419).run Tryz.prog w = .ok 2 w:=by
 obtain⟨i0,hi,hz0,hz1,hz2⟩:=info_parts Tryz.info_entry
 simp[sizeOf,typeInfo,hi,hz1]
theorem overlaps_no (w:World) (x g o lb cb:Nat) (a:ByteArray) (b:Nat) (cur:Array Value) (hne:x≠g) (hx:w.heap[x]? = some (.cells #[.string a,fptr b] 419 (0,0))) (hg:w.heap[g]? = some (.cells cur 419 (0,0))) (hc:cur.size≠0) :
  (callFunc 363 #[.slice (some ⟨x,0,none⟩) 1 1,.slice (some ⟨g,o,none⟩) lb cb]).run Tryz.prog w = .ok (.value (.bool false)) w:=by
 rw[run_callFunc_extern Tryz.func363 (by kernel_rfl) (by kernel_rfl) (by kernel_rfl) (e:=Extern.SlicesOverlaps.overlaps #[265,265] #[4]) (by kernel_rfl),
  Lib.run_overlaps_apart w 265 4 419 Tryz.underlying265 2 sizeOf_entry ⟨x,0,none⟩ ⟨g,o,none⟩ 1 1 lb cb hne 419 419 2 cur.size (by simp[World.shape?,hx]) (by simp[World.shape?,hg]) hc (by simp[World.frozen?,hx]) (by simp[World.frozen?,hx])]
 rfl
theorem insert_room (B x g cap i:Nat) (cur:Array Value) (T:Sd.Tb) (a:ByteArray) (b:Nat) (w:World) (hi:i < T.length) (hB:B≤g) (hroom:T.length+1≤cap) (hcm:cap≤maxLen) (hl:T.length≤100000) (hne:x≠g)
  (hg:w.heap[g]? = some (.cells cur 419 (0,0))) (hcs:cur.size=cap * 2) (htake:cur.toList.take (T.length * 2)=tbCells T)
  (hx:w.heap[x]? = some (.cells #[.string a,fptr b] 419 (0,0))) :
  Calls Tryz.prog 355 #[.slice (some ⟨g,0,none⟩) T.length cap,.int .i64 i,.slice (some ⟨x,0,none⟩) 1 1] w (InsPost w B (.slice (some ⟨g,0,none⟩) T.length cap) T i a b):=by
 have hov:∀ o lb cb,(callFunc 363 #[.slice (some ⟨x,0,none⟩) 1 1,.slice (some ⟨g,o,none⟩) lb cb]).run Tryz.prog w = .ok (.value (.bool false)) w:=fun o lb cb=>overlaps_no w x g o lb cb a b cur hne hx hg (by omega)
 obtain⟨D,hD⟩:∃ D,D=(tbCells T).drop (i * 2):=⟨_,rfl⟩
 obtain⟨V,hVd⟩:∃ V:List Value,V=[.string a,fptr b]:=⟨_,rfl⟩
 have hDl:D.length=(T.length - i) * 2:=by rw[hD,List.length_drop,tb_len];omega
 have hVl:V.length=2:=by rw[hVd];rfl
 have hcl:cur.toList.length=cap * 2:=by simpa using hcs
 obtain⟨c1,hc1⟩:∃ c1,c1=ovr cur.toList (i * 2+V.length) D:=⟨_,rfl⟩
 obtain⟨c2,hc2⟩:∃ c2,c2=ovr c1 (i * 2) V:=⟨_,rfl⟩
 have hc1l:c1.length=cap * 2:=by rw[hc1,ovr_len _ _ _ (by omega)];exact hcl
 have hc2l:c2.length=cap * 2:=by rw[hc2,ovr_len _ _ _ (by omega)];exact hc1l
 have hres:c2.take ((T.length+1) * 2)=tbCells (T.take i++(a,b) :: T.drop i):=by
  have e:=ovr_room cur.toList (i * 2) V D 0 (by omega)
  rw[← hc1,← hc2] at e
  have e2:i * 2+V.length+D.length=(T.length+1) * 2:=by omega
  rw[e2] at e
  rw[e,← tb_ins,← hVd,← hD]
  congr 2
  rw[← htake,List.take_take,Nat.min_eq_left (by omega)]
 have hcell:∀ j v,D[j]? = some v→w.cell? ⟨g,i * 2+j,none⟩=some v:=fun j v hj=>by
  have hjl:j < D.length:=(List.getElem?_eq_some_iff.1 hj).1
  rw[cell_of_row w g _ _ _ _ hg]
  rw[hD,← htake,List.getElem?_drop,List.getElem?_take,if_pos (by omega)] at hj
  simpa using hj
 have hD1:∀ v ∈ D,v.oneCell'=true:=fun v hv=>tb_one T v (by rw[hD] at hv;exact List.mem_of_mem_drop hv)
 have hcp1:∀ ty dc sc,(Builtin.copy_ #[265,265] ty #[.slice (some ⟨g,(i+1) * 2,none⟩) (T.length+1 - (i+1)) dc,.slice (some ⟨g,i * 2,none⟩) (T.length+1 - i) sc]).run Tryz.prog w.drew = .ok (goInt ((T.length - i:Nat):Int)) (w.drew.setRow g c1.toArray):=fun ty dc sc=>by
  have h:=run_copy_rowK (P:=Tryz.prog) w.drew 265 265 ty 419 2 g ((i+1) * 2) (T.length+1 - (i+1)) dc ⟨g,i * 2,none⟩ (T.length+1 - i) sc cur 419 D Tryz.underlying265 size_entry hg (T.length - i) (by simp only[Nat.min_def];split <;> omega) hDl
   (fun j v hj=>by rw[Addr.add_lit];exact hcell j v hj) (by omega) hD1
  rw[h,hc1]
  unfold ovr
  rw[show i * 2+V.length=(i+1) * 2 by omega]
 have hg1:(w.drew.setRow g c1.toArray).heap[g]? = some (.cells c1.toArray 419 (0,0)):=setRow_heap w.drew g cur _ _ _ hg
 have hx1:(w.drew.setRow g c1.toArray).heap[x]? = some (.cells #[.string a,fptr b] 419 (0,0)):=by
  rw[setRow_other w.drew g x _ hne];exact hx
 obtain⟨W1,hW1⟩:∃ W1,W1=w.drew.setRow g c1.toArray:=⟨_,rfl⟩
 rw[← hW1] at hcp1 hg1 hx1
 have hcp2:∀ (W:World),W=W1→∀ ty dc,(Builtin.copy_ #[265,265] ty #[.slice (some ⟨g,i * 2,none⟩) (T.length+1 - i) dc,.slice (some ⟨x,0,none⟩) 1 1]).run Tryz.prog W = .ok (goInt 1) (W1.setRow g c2.toArray):=fun W hW ty dc=>by
  subst hW
  have h:=run_copy_rowK (P:=Tryz.prog) W 265 265 ty 419 2 g (i * 2) (T.length+1 - i) dc ⟨x,0,none⟩ 1 1 c1.toArray 419 V Tryz.underlying265 size_entry hg1 1 (by simp only[Nat.min_def];split <;> omega) (by omega)
   (fun j v hj=>by
     rw[Addr.add_lit,cell_of_row W x _ _ _ _ hx1]
     rw[hVd] at hj
     simpa using hj) (by simp;omega) (by rw[hVd];intro v hv;simp at hv;rcases hv with rfl | rfl <;> rfl)
  rw[h,hc2]
  rfl
 have hfin:∀ W,W=W1.setRow g c2.toArray→W.ownsRow B 419 2 (.slice (some ⟨g,0,none⟩) (T.length+1) cap) (T.length+1) (tbCells (T.take i++(a,b) :: T.drop i))∧w.grownBy W (Value.ownBlock (.slice (some ⟨g,0,none⟩) T.length cap)):=fun W hW=>by
  rw[hW]
  refine⟨⟨by rw[tb_len];simp;omega,.inr ⟨g,cap,c2.toArray,rfl,hB,setRow_heap W1 g _ _ _ _ hg1,hroom,hcm,by simpa using hc2l,by simpa using hres⟩⟩,?_⟩
  refine⟨by rw[hW1];rfl,by rw[hW1];rfl,by rw[hW1];rfl,by rw[hW1];simp[World.setRow],fun k hk hkg=>?_⟩
  have hkg':k≠g:=fun e=>hkg (by rw[e];rfl)
  rw[setRow_other W1 g k _ hkg',hW1,setRow_other w.drew g k _ hkg'];rfl
 have HFIN:=hde hfin
 unfold maxLen at hcm
 have hw1:IntKind.i64.wrap ((i:Int)+1)=(i:Int)+1:=by rw[IntKind.wrap_i64];omega
 have hb1:(0:Int)≤(i:Int)+1:=by omega
 have hin:i≤T.length:=by omega
 have hin2:(i:Int)≤(T.length:Int):=by omega
 have htn:((i:Int)+1).toNat=i+1:=by omega
 have hb3:(i:Int)≤(T.length:Int)+1:=by omega
 have hz2:¬ ((i:Int)=(T.length:Int)):=by omega
 have hz3:¬ ((cap:Int) < (T.length:Int)+1):=by omega
 have hb2:¬ (cap=i+1):=by omega
 have hb4:¬ (cap=i):=by omega
 clear hfin hres hcell hD1 hD hVd hDl hVl hcl hc1 hc2 hc1l hc2l hg hx hcs htake hg1 hx1 hW1
 go_enter Tryz.func355,Tryz.ntmps355
 go_wp2_with (simp only[hov])
 go_region_law (refine step_copy_runI rfl (.tmp 73) (.tmp 76) 265 265 rfl _ _ (by simp[Act.eval,Act.put];rfl) (by simp[Act.eval,Act.put];rfl) (hcp1 _ _ _) ?_)
 go_wp2_with (first | (at_builtin;go_must (refine wpList_copy_runI _ rfl (.tmp 80) (.tmp 81) 265 265 rfl _ _ rfl rfl (hcp2 _ rfl _ _) ?_)) | go_in)
 go_wp2
 go_ret
 obtain⟨q1,q2⟩:=(uh HFIN) _ rfl
 exact⟨_,rfl,q1,q2,by first | exact Or.inl rfl | exact Or.inr rfl⟩
theorem insert_grow (B x g cap i:Nat) (cur:Array Value) (T:Sd.Tb) (a:ByteArray) (b:Nat) (w:World) (hi:i < T.length) (hB:B≤w.heap.size) (hcap:cap=T.length) (hl:T.length≤100000)
  (hg:w.heap[g]? = some (.cells cur 419 (0,0))) (htake:cur.toList.take (T.length * 2)=tbCells T) (hcs:T.length * 2≤cur.size)
  (hx:w.heap[x]? = some (.cells #[.string a,fptr b] 419 (0,0))) :
  Calls Tryz.prog 355 #[.slice (some ⟨g,0,none⟩) T.length cap,.int .i64 i,.slice (some ⟨x,0,none⟩) 1 1] w (InsPost w B (.slice (some ⟨g,0,none⟩) T.length cap) T i a b):=by
 subst hcap
 obtain⟨i0,hi0,hz0,hzs,hzb⟩:=info_parts Tryz.info_entry
 obtain⟨D,hD⟩:∃ D,D=(tbCells T).drop (i * 2):=⟨_,rfl⟩
 obtain⟨V,hVd⟩:∃ V:List Value,V=[.string a,fptr b]:=⟨_,rfl⟩
 have hDl:D.length=(T.length - i) * 2:=by rw[hD,List.length_drop,tb_len];omega
 have hVl:V.length=2:=by rw[hVd];rfl
 have hcell:∀ j v,(tbCells T)[j]? = some v→w.cell? ⟨g,j,none⟩=some v:=fun j v hj=>by
  have hjl:j < (tbCells T).length:=(List.getElem?_eq_some_iff.1 hj).1
  rw[tb_len] at hjl
  rw[cell_of_row w g _ _ _ _ hg]
  rw[← htake,List.getElem?_take,if_pos (by omega)] at hj
  simpa using hj
 have hik:i+(T.length+1 - i)=T.length+1:=by omega
 have hold:(Builtin.firstCells i0.size i (.slice (some ⟨g,0,none⟩) i T.length)).run Tryz.prog w.drew = .ok ((tbCells T).take (i * 2)).toArray w.drew:=by
  rw[hzs]
  exact run_firstCells_some w.drew 2 i ⟨g,0,none⟩ i T.length ((tbCells T).take (i * 2)) (by rw[List.length_take,tb_len];omega) (fun j v hj=>by
   rw[Addr.add_lit]
   rw[List.getElem?_take] at hj
   split at hj
   ·simpa using hcell j v hj
   ·cases hj)
 obtain⟨G,hG⟩:∃ G,G=grownCap w (T.length+1) T.length 419:=⟨_,rfl⟩
 have hGn:T.length+1≤G:=by rw[hG];exact grownCap_ge w _ _ _
 have hGm:G≤maxLen:=by rw[hG];exact grownCap_le_maxLen w _ _ _ (by unfold maxLen;omega)
 obtain⟨ROW,hROW⟩:∃ ROW:Array Value,ROW=((tbCells T).take (i * 2)).toArray++Builtin.zeroCells (Value.agg #[.string ⟨#[]⟩,.pointer none]).cells (T.length+1 - i)++Builtin.zeroCells (Value.agg #[.string ⟨#[]⟩,.pointer none]).cells (G - (T.length+1)):=⟨_,rfl⟩
 have hrz:∀ ty,(Builtin.append_ #[265,3] ty #[.slice (some ⟨g,0,none⟩) i T.length,.int .i64 ((T.length:Int)+1 - (i:Int))]).run Tryz.prog w =
   .ok (.slice (some ⟨w.heap.size,0,none⟩) (T.length+1) G) (w.drew.alloc (.cells ROW 419)):=fun ty=>by
  have h:=Lib.run_append_grow_zeros w 265 3 ty 419 i0 _ .i64 .i64 Tryz.underlying265 Tryz.underlying3 hi0 hz0 (some ⟨g,0,none⟩) i T.length ((tbCells T).take (i * 2)) hold (T.length+1 - i) (by omega) (by omega) (by omega) (by omega) (by rw[hzb];omega) (by rw[hzb,hik];exact growslice_fits (by omega) (by omega))
  rw[hik] at h
  rw[show (T.length:Int)+1 - (i:Int)=((T.length+1 - i:Nat):Int) by omega,hROW,hG]
  exact h
 have hRl:ROW.toList.length=G * 2:=by
  rw[hROW]
  simp[Builtin.zeroCells,Value.cells,tb_len]
  omega
 have hRt:ROW.toList.take (i * 2)=(tbCells T).take (i * 2):=by
  rw[hROW]
  simp only[Array.toList_append,List.append_assoc]
  rw[List.take_append_of_le_length (by simp[tb_len];omega)]
  exact(List.take_take ..).trans (by rw[Nat.min_self])
 obtain⟨c1,hc1⟩:∃ c1,c1=ovr ROW.toList (i * 2) V:=⟨_,rfl⟩
 obtain⟨c2,hc2⟩:∃ c2,c2=ovr c1 (i * 2+V.length) D:=⟨_,rfl⟩
 have hc1l:c1.length=G * 2:=by rw[hc1,ovr_len _ _ _ (by omega)];exact hRl
 have hc2l:c2.length=G * 2:=by rw[hc2,ovr_len _ _ _ (by omega)];exact hc1l
 have hres:c2.take ((T.length+1) * 2)=tbCells (T.take i++(a,b) :: T.drop i):=by
  have e:=ovr_grow ROW.toList (i * 2) V D (by omega)
  rw[← hc1,← hc2] at e
  have e2:i * 2+V.length+D.length=(T.length+1) * 2:=by omega
  rw[e2] at e
  rw[e,← tb_ins,← hVd,← hD,hRt]
 have hgw:g < w.heap.size:=lt_of_block hg
 have hxw:x < w.heap.size:=lt_of_block hx
 obtain⟨W1,hW1⟩:∃ W1,W1=w.drew.alloc (.cells ROW 419):=⟨_,rfl⟩
 have hgR:W1.heap[w.heap.size]? = some (.cells ROW 419 (0,0)):=by rw[hW1];exact heap_alloc_new w.drew _
 have hx1:W1.heap[x]? = some (.cells #[.string a,fptr b] 419 (0,0)):=by rw[hW1,Below.heap_alloc w.drew _ x hxw];exact hx
 have hg1:W1.heap[g]? = some (.cells cur 419 (0,0)):=by rw[hW1,Below.heap_alloc w.drew _ g hgw];exact hg
 rw[← hW1] at hrz
 have hcpA:∀ W,W=W1→∀ ty dc,(Builtin.copy_ #[265,265] ty #[.slice (some ⟨w.heap.size,i * 2,none⟩) (T.length+1 - i) dc,.slice (some ⟨x,0,none⟩) 1 1]).run Tryz.prog W = .ok (goInt 1) (W1.setRow w.heap.size c1.toArray):=fun W hW ty dc=>by
  subst hW
  have h:=run_copy_rowK (P:=Tryz.prog) W 265 265 ty 419 2 w.heap.size (i * 2) (T.length+1 - i) dc ⟨x,0,none⟩ 1 1 ROW 419 V Tryz.underlying265 size_entry hgR 1 (by simp only[Nat.min_def];split <;> omega) (by omega)
   (fun j v hj=>by
     rw[Addr.add_lit,cell_of_row W x _ _ _ _ hx1]
     rw[hVd] at hj
     simpa using hj) (by rw[← Array.length_toList,hRl];omega) (by rw[hVd];intro v hv;simp at hv;rcases hv with rfl | rfl <;> rfl)
  rw[h,hc1]
  rfl
 obtain⟨W2,hW2⟩:∃ W2,W2=W1.setRow w.heap.size c1.toArray:=⟨_,rfl⟩
 have hgR2:W2.heap[w.heap.size]? = some (.cells c1.toArray 419 (0,0)):=by rw[hW2];exact setRow_heap W1 _ _ _ _ _ hgR
 have hg2:W2.heap[g]? = some (.cells cur 419 (0,0)):=by rw[hW2,setRow_other W1 _ g _ (by omega)];exact hg1
 rw[← hW2] at hcpA
 have hcpB:∀ W,W=W2.drew→∀ ty dc sc,(Builtin.copy_ #[265,265] ty #[.slice (some ⟨w.heap.size,(i+1) * 2,none⟩) (T.length+1 - (i+1)) dc,.slice (some ⟨g,i * 2,none⟩) (T.length - i) sc]).run Tryz.prog W = .ok (goInt ((T.length - i:Nat):Int)) (W2.drew.setRow w.heap.size c2.toArray):=fun W hW ty dc sc=>by
  subst hW
  have h:=run_copy_rowK (P:=Tryz.prog) W2.drew 265 265 ty 419 2 w.heap.size ((i+1) * 2) (T.length+1 - (i+1)) dc ⟨g,i * 2,none⟩ (T.length - i) sc c1.toArray 419 D Tryz.underlying265 size_entry hgR2 (T.length - i) (by simp only[Nat.min_def];split <;> omega) hDl
   (fun j v hj=>by
     rw[Addr.add_lit]
     refine(cell_of_row W2.drew g _ _ _ _ hg2).trans ?_
     rw[← cell_of_row w g _ _ _ _ hg]
     exact hcell _ v (by rw[hD,List.getElem?_drop] at hj;exact hj)) (by simp;omega) (fun v hv=>tb_one T v (by rw[hD] at hv;exact List.mem_of_mem_drop hv))
  rw[h,hc2]
  unfold ovr
  rw[show i * 2+V.length=(i+1) * 2 by omega]
 have hfin:∀ W,W=W2.drew.setRow w.heap.size c2.toArray→W.ownsRow B 419 2 (.slice (some ⟨w.heap.size,0,none⟩) (T.length+1) G) (T.length+1) (tbCells (T.take i++(a,b) :: T.drop i))∧w.grownBy W (Value.ownBlock (.slice (some ⟨g,0,none⟩) T.length T.length)):=fun W hW=>by
  rw[hW]
  refine⟨⟨by rw[tb_len];simp;omega,.inr ⟨w.heap.size,G,c2.toArray,rfl,hB,setRow_heap W2.drew _ _ _ _ _ hgR2,hGn,hGm,by simpa using hc2l,by simpa using hres⟩⟩,?_⟩
  refine⟨by rw[hW2,hW1];rfl,by rw[hW2,hW1];rfl,by rw[hW2,hW1];rfl,by rw[hW2,hW1];simp[World.setRow],fun k hk hkg=>?_⟩
  rw[setRow_other W2.drew _ k _ (by omega)]
  show W2.heap[k]? = _
  rw[hW2,setRow_other W1 _ k _ (by omega),hW1,Below.heap_alloc w.drew _ k hk];rfl
 have HFIN:=hde hfin
 unfold maxLen at hGm
 have hw1:IntKind.i64.wrap ((i:Int)+1)=(i:Int)+1:=by rw[IntKind.wrap_i64];omega
 have hb1:(0:Int)≤(i:Int)+1:=by omega
 have hin:i≤T.length:=by omega
 have hin2:(i:Int)≤(T.length:Int):=by omega
 have htn:((i:Int)+1).toNat=i+1:=by omega
 have hb3:(i:Int)≤(T.length:Int)+1:=by omega
 have hz2:¬ ((i:Int)=(T.length:Int)):=by omega
 have hGi:¬ (G=i):=by omega
 have hGim:¬ (G=i+1):=by omega
 have hci:¬ (T.length=i):=by omega
 clear hfin hres hcell hD hVd hDl hVl hc1 hc2 hc1l hc2l hg hx hcs htake hg1 hx1 hW1 hW2 hgR hgR2 hg2 hRl hRt hROW hG hold hik
 go_enter Tryz.func355,Tryz.ntmps355
 go_wp2_with (first
  | (at_builtin;refine Lib.wpList_append_run _ rfl (.tmp 34) (.tmp 39) _ _ rfl _ _ rfl rfl _ _ (hrz _) ?_)
  | (at_builtin;refine wpList_copy_runI _ rfl (.tmp 43) (.tmp 44) 265 265 rfl _ _ rfl rfl (hcpA _ rfl _ _) ?_))
 go_region_law (refine step_copy_runI rfl (.tmp 50) (.tmp 53) 265 265 rfl _ _ (by simp[Act.eval,Act.put];rfl) (by simp[Act.eval,Act.put];rfl) (hcpB _ rfl _ _ _) ?_)
 go_wp2
 go_ret
 obtain⟨q1,q2⟩:=(uh HFIN) _ rfl
 exact⟨_,rfl,q1,q2,by first | exact Or.inl rfl | exact Or.inr rfl⟩
theorem insert_any (B x:Nat) (v:Value) (T:Sd.Tb) (i:Nat) (a:ByteArray) (b:Nat) (w:World) (hi:i≤T.length) (hB:B≤w.heap.size) (h:w.ownsRow B 419 2 v T.length (tbCells T)) (hl:T.length≤100000)
  (hne:v.ownBlock≠some x) (hx:w.heap[x]? = some (.cells #[.string a,fptr b] 419 (0,0))) :
  Calls Tryz.prog 355 #[v,.int .i64 i,.slice (some ⟨x,0,none⟩) 1 1] w (InsPost w B v T i a b):=by
 by_cases he:i=T.length
 ·subst he;exact insert_end B x v T a b w hB h hl hx
 ·rcases h.2 with ⟨hv,hn⟩ | ⟨g,cap,cur,hv,hBg,hgg,hnc,hcm,hcs,htake⟩
  ·omega
  ·subst hv
   by_cases hr:T.length+1≤cap
   ·exact insert_room B x g cap i cur T a b w (by omega) hBg hr hcm hl (fun e=>hne (by rw[e];rfl)) hgg hcs htake hx
   ·exact insert_grow B x g cap i cur T a b w (by omega) hB (by omega) hl hgg htake (by omega) hx
structure Kept (w w':World) (ok:Nat→Prop):Prop where
 os:w'.os=w.os
 tape:w'.tape=w.tape
 output:w'.output=w.output
 size:w.heap.size≤w'.heap.size
 block:∀ k,k < w.heap.size→ok k→w'.heap[k]? = w.heap[k]?
theorem Kept.refl (w:World) (ok:Nat→Prop):Kept w w ok:=⟨rfl,rfl,rfl,Nat.le_refl _,fun _ _ _=>rfl⟩
theorem Kept.trans {a b c:World} {ok:Nat→Prop} (h:Kept a b ok) (k:Kept b c ok):Kept a c ok :=
 ⟨k.os.trans h.os,k.tape.trans h.tape,k.output.trans h.output,Nat.le_trans h.size k.size,fun i hi ho=>(k.block i (Nat.lt_of_lt_of_le hi h.size) ho).trans (h.block i hi ho)⟩
theorem Kept.mono {w w':World} {ok ok':Nat→Prop} (h:Kept w w' ok) (hk:∀ k,k < w.heap.size→ok' k→ok k):Kept w w' ok':=⟨h.os,h.tape,h.output,h.size,fun i hi ho=>h.block i hi (hk i hi ho)⟩
theorem Kept.below {w w':World} (h:Below w.heap.size w w') (ok:Nat→Prop):Kept w w' ok:=⟨h.os,h.tape,h.output,h.size,fun k hk _=>h.block k hk⟩
theorem Kept.grown {w w':World} {row:Option Nat} {ok:Nat→Prop} (h:w.grownBy w' row) (hk:∀ k,ok k→row≠some k):Kept w w' ok:=⟨h.os,h.tape,h.output,h.size,fun k hl ho=>h.block k hl (fun e=>hk k ho e.symm)⟩
theorem Kept.setCell {a w:World} {ok:Nat→Prop} (h:Kept a w ok) {p:Addr} (hp:¬ ok p.block) (u:Value):Kept a (w.setCell p u) ok :=
 ⟨h.os,h.tape,h.output,by simpa using h.size,fun k hk ho=>(Below.heap_setCell w p u k (fun e=>hp (e ▸ ho))).trans (h.block k hk ho)⟩
theorem Kept.setCell' {a w:World} {ok:Nat→Prop} (h:Kept a w ok) {p:Addr} (hp:∀ k,k < a.heap.size→ok k→k≠p.block) (u:Value):Kept a (w.setCell p u) ok :=
 ⟨h.os,h.tape,h.output,by simpa using h.size,fun k hk ho=>(Below.heap_setCell w p u k (hp k hk ho)).trans (h.block k hk ho)⟩
theorem Kept.alloc {a w:World} {ok:Nat→Prop} (h:Kept a w ok) (o:Obj):Kept a (w.alloc o) ok :=
 ⟨h.os,h.tape,h.output,by have:=h.size;simp;omega,fun k hk ho=>(Below.heap_alloc w o k (Nat.lt_of_lt_of_le hk h.size)).trans (h.block k hk ho)⟩
theorem Kept.drew {a w:World} {ok:Nat→Prop} (h:Kept a w ok):Kept a w.drew ok:=⟨h.os,h.tape,h.output,h.size,h.block⟩
theorem own_kept {w w':World} {B e size n:Nat} {v:Value} {xs:List Value} {ok:Nat→Prop} (h:w.ownsRow B e size v n xs) (hk:Kept w w' ok) (ho:∀ g,v.ownBlock=some g→ok g):w'.ownsRow B e size v n xs:=by
 obtain⟨h1,h2⟩:=h
 refine⟨h1,?_⟩
 rcases h2 with h2 | ⟨g,cap,cur,hv,hB,hg,r⟩
 ·exact .inl h2
 ·refine .inr ⟨g,cap,cur,hv,hB,?_,r⟩
  rw[hk.block g (Array.getElem?_eq_some_iff.1 hg).1 (ho g (by rw[hv];rfl)),hg]
theorem own_zero {w:World} {B e size n:Nat} {v:Value} {xs:List Value} (h:w.ownsRow B e size v n xs):w.ownsRow 0 e size v n xs:=by
 obtain⟨h1,h2⟩:=h
 refine⟨h1,?_⟩
 rcases h2 with h2 | ⟨g,cap,cur,hv,hB,hg,r⟩
 ·exact .inl h2
 ·exact .inr ⟨g,cap,cur,hv,Nat.zero_le _,hg,r⟩
structure TabIn (w:World) (D o:Nat) (C:Array Value) (tD:TypeId) (v:Value) (T:Sd.Tb):Prop where
 blk:w.heap[D]? = some (.cells C tD (0,0))
 at_:C[o]? = some v
 row:w.ownsRow 0 419 2 v T.length (tbCells T)
 srt:Sd.tsorted T
 len:T.length≤100000
theorem TabIn.cell {w:World} {D o:Nat} {C:Array Value} {tD:TypeId} {v:Value} {T:Sd.Tb} (h:TabIn w D o C tD v T):w.cell? ⟨D,o,none⟩=some v:=by
 rw[cell_of_row w D o _ _ _ h.blk];exact h.at_
theorem TabIn.below {w w':World} {D o:Nat} {C:Array Value} {tD:TypeId} {v:Value} {T:Sd.Tb} (h:TabIn w D o C tD v T) (hb:Below w.heap.size w w'):TabIn w' D o C tD v T :=
 ⟨(hb.block D (lt_of_block h.blk)).trans h.blk,h.at_,obl h.row hb,h.srt,h.len⟩
theorem place_any (D o:Nat) (C:Array Value) (tD:TypeId) (v:Value) (T:Sd.Tb) (y:ByteArray) (w:World) (h:TabIn w D o C tD v T) :
  Calls Tryz.prog 292 #[.pointer (some ⟨D,o,none⟩),.string y] w fun e w'=>e = .returned (.tuple #[.int .i64 (Sd.tlow T y:Nat),.bool (Sd.thas T y)])∧Below w.heap.size w w':=by
 obtain⟨p,cap,rfl,he⟩:=ents_of_own h.row
 have hc:=h.cell
 have hT:=h.srt
 have hl:=h.len
 clear h
 go_enter Tryz.func292,Tryz.ntmps292
 go_wp2_with fail
 refine(search_any p cap T y w he hT hl).mono ?_
 rintro e w' ⟨rfl,hb⟩
 go_wp2
 exact bodyPost_ret (v := .tuple #[.int .i64 (Sd.tlow T y:Nat),.bool (Sd.thas T y)]) (by simp[results,Tryz.results292,go_sem]) rfl ⟨rfl,hb⟩
def optPtr:Option Nat→Value
 | some f=>fptr f
 | none=>.pointer none
theorem get_any (D o:Nat) (C:Array Value) (tD:TypeId) (v:Value) (T:Sd.Tb) (y:ByteArray) (w:World) (h:TabIn w D o C tD v T) :
  Calls Tryz.prog 235 #[.pointer (some ⟨D,o,none⟩),.string y] w fun e w'=>e = .returned (.tuple #[optPtr (Sd.tget T y),.bool (Sd.thas T y)])∧Below w.heap.size w w':=by
 have HTAB:=hde h
 cases hh:Sd.thas T y with
 | false =>
  rw[Sd.tget_none hh]
  have HH:=hde hh
  clear hh h
  go_enter Tryz.func235,Tryz.ntmps235
  go_wp2_with fail
  refine(place_any D o C tD v T y w (uh HTAB)).mono ?_
  rintro e w1 ⟨rfl,hb⟩
  rw[uh HH]
  go_wp2
  go_ret2
  exact⟨rfl,hb⟩
 | true =>
  obtain⟨hj,e1,e2⟩:=Sd.tget_at h.srt hh
  rw[e2]
  have hjl:=Sd.tlow_le T y
  have hl:=h.len
  have HH:=hde hh
  clear hh h e1 e2
  go_enter Tryz.func235,Tryz.ntmps235
  go_wp2_with fail
  refine(place_any D o C tD v T y w (uh HTAB)).mono ?_
  rintro e w1 ⟨rfl,hb⟩
  rw[uh HH]
  have hc:=((uh HTAB).below hb).cell
  obtain⟨p,cap,rfl,he⟩:=ents_of_own ((uh HTAB).below hb).row
  obtain⟨g,hp,c0,c1⟩:=he (Sd.tlow T y) hj
  subst hp
  obtain⟨f,hf⟩:∃ f,(T[Sd.tlow T y]).2=f:=⟨_,rfl⟩
  rw[hf] at c1
  have HF:=hde hf
  generalize Sd.tlow T y=i at hj hjl c0 c1 HF
  clear he hf
  unfold fptr at c1
  go_wp2
  go_ret2
  exact⟨by rw[uh HF];rfl,hb⟩
end Go.Proofs.YteflnddphpjahaaGreatDoor.Dk
