import Derived.Test.YteflnddphpjahaaGreatDoorCnDtEtoDtG
import Derived.Deep.DeepMust
import Derived.Deep.RegionLaw
set_option linter.unusedVariables false
set_option linter.unusedSimpArgs false
set_option maxRecDepth 100000
set_option maxHeartbeats 16000000
namespace Go.Proofs.YteflnddphpjahaaGreatDoor.Dk
open Go.RowKit
theorem run_clear1 (w:World) (g o c:Nat) (cur:Array Value) (ty:TypeId) (hg:w.heap[g]? = some (.cells cur 419 (0,0))) (hfit:o+2≤cur.size) :
  (Builtin.clear_ #[265] ty #[.slice (some ⟨g,o,none⟩) 1 c]).run Tryz.prog w = .ok (.tuple #[]) (w.setRow g (ovr cur.toList o [.string ⟨#[]⟩,.pointer none]).toArray):=by
 obtain⟨i0,hi,hz0,hz1,hz2⟩:=info_parts Tryz.info_entry
 have hst:=run_storeCells_at Tryz.prog g o 419 [.string ⟨#[]⟩,.pointer none] 0 cur w hg (by simpa using hfit) (by intro v hv;simp at hv;rcases hv with rfl | rfl <;> rfl)
 have hzc:(Builtin.zeroCells (Value.agg #[.string ⟨#[]⟩,.pointer none]).cells 1).toList=[.string ⟨#[]⟩,.pointer none]:=by simp[Builtin.zeroCells,Value.cells];rfl
 simp only[Nat.add_zero] at hst
 simp[Builtin.clear_,run_underlying Tryz.underlying265,zeroValue,typeInfo,hi,hz0,hzc,hst,ovr]
theorem step_append_run {P:Program} {ops:Array Oper} {o:Oper} {a:Act} {w w':World} {K:Act→World→Prop} {Q:Exit→Act→World→Prop} {E:Prop} {v':Value}
  (hg:o.guard=none) (s x:Operand) (t u:TypeId) (hop:o.op=Op.call { callee:=Callee.builtin Builtin.append,args := #[s,x],argTypes := #[t,u] })
  (vs vx:Value) (hs:a.eval s=vs) (hx:a.eval x=vx) (hr:(Builtin.append_ #[t,u] o.type #[vs,vx]).run P w = .ok v' w') (hK:K (a.put o.dst v') w') :
  if Region.wanted o (yielded ops a.tmps)=true then Oper.wp P o a w K Q else E:=by
 have hw:Region.wanted o (yielded ops a.tmps)=true:=by simp[Region.wanted,hg]
 rw[if_pos hw]
 unfold Oper.wp
 simp[execOp,hop,resolve,invoke,builtin,hs,hx,hr,Result.andThen]
 exact hK
theorem tb_erase (T:Sd.Tb) (i:Nat):tbCells (T.eraseIdx i)=(tbCells T).take (i * 2)++tbCells (T.drop (i+1)):=by
 rw[List.eraseIdx_eq_take_drop_succ,tb_append,tb_take]
theorem delete_any (g cap i:Nat) (cur:Array Value) (T:Sd.Tb) (w:World) (hi:i < T.length) (hnc:T.length≤cap) (hcm:cap≤maxLen) (hl:T.length≤100000)
  (hg:w.heap[g]? = some (.cells cur 419 (0,0))) (hcs:cur.size=cap * 2) (htake:cur.toList.take (T.length * 2)=tbCells T) :
  Calls Tryz.prog 336 #[.slice (some ⟨g,0,none⟩) T.length cap,.int .i64 i,.int .i64 ((i:Int)+1)] w fun e w'=>e = .returned (.slice (some ⟨g,0,none⟩) (T.length - 1) cap) ∧
   w'.ownsRow 0 419 2 (.slice (some ⟨g,0,none⟩) (T.length - 1) cap) (T.length - 1) (tbCells (T.eraseIdx i))∧w.grownBy w' (some g):=by
 obtain⟨i0,hi0,hz0,hz1,hz2⟩:=info_parts Tryz.info_entry
 obtain⟨Dl,hDd⟩:∃ Dl,Dl=tbCells (T.drop (i+1)):=⟨_,rfl⟩
 have hDl:Dl.length=(T.length - (i+1)) * 2:=by rw[hDd,tb_len,List.length_drop]
 have hcl:cur.toList.length=cap * 2:=by simpa using hcs
 obtain⟨c1,hc1⟩:∃ c1,c1=ovr cur.toList (i * 2) Dl:=⟨_,rfl⟩
 have hc1l:c1.length=cap * 2:=by rw[hc1,ovr_len _ _ _ (by omega)];exact hcl
 have hD1:∀ v ∈ Dl,v.oneCell'=true:=fun v hv=>tb_one (T.drop (i+1)) v (by rw[← hDd];exact hv)
 have hcell:∀ j v,Dl[j]? = some v→w.cell? ⟨g,(i+1) * 2+j,none⟩=some v:=fun j v hj=>by
  have hjl:j < Dl.length:=(List.getElem?_eq_some_iff.1 hj).1
  rw[cell_of_row w g _ _ _ _ hg]
  rw[hDd,← tb_drop,← htake,List.getElem?_drop,List.getElem?_take,if_pos (by omega)] at hj
  simpa using hj
 have hrA:∀ ty o' c',(o'=(i+1) * 2∨T.length - (i+1)=0)→(Builtin.append_ #[265,265] ty #[.slice (some ⟨g,0,none⟩) i cap,.slice (some ⟨g,o',none⟩) (T.length - (i+1)) c']).run Tryz.prog w.drew = .ok (.slice (some ⟨g,0,none⟩) (T.length - 1) cap) (w.drew.setRow g c1.toArray):=fun ty o' c' ho=>by
  have h:=run_append_room (P:=Tryz.prog) w.drew 265 ty 419 i0 Tryz.underlying265 hi0 g i cap cur hg ⟨g,o',none⟩ (T.length - (i+1)) c' Dl (by rw[hz1];exact hDl)
   (fun j v hj=>by
     rcases ho with rfl | h0
     ·rw[Addr.add_lit];exact hcell j v hj
     ·have hjl:j < Dl.length:=(List.getElem?_eq_some_iff.1 hj).1
      omega) hD1 (by omega) (by rw[hz1];omega)
  rw[h,hz1,hc1]
  have e:i+(T.length - (i+1))=T.length - 1:=by omega
  rw[e]
  rfl
 have hg1:(w.drew.setRow g c1.toArray).heap[g]? = some (.cells c1.toArray 419 (0,0)):=setRow_heap w.drew g cur _ _ _ hg
 obtain⟨W1,hW1⟩:∃ W1,W1=w.drew.setRow g c1.toArray:=⟨_,rfl⟩
 rw[← hW1] at hrA hg1
 obtain⟨c2,hc2⟩:∃ c2,c2=ovr c1 ((T.length - 1) * 2) [.string ⟨#[]⟩,.pointer none]:=⟨_,rfl⟩
 have hc2l:c2.length=cap * 2:=by rw[hc2,ovr_len _ _ _ (by simp;omega)];exact hc1l
 have hclr:∀ (W:World),W=W1→∀ ty c',(Builtin.clear_ #[265] ty #[.slice (some ⟨g,(T.length - 1) * 2,none⟩) 1 c']).run Tryz.prog W = .ok (.tuple #[]) (W1.setRow g c2.toArray):=fun W hW ty c'=>by
  subst hW
  have h:=run_clear1 W g ((T.length - 1) * 2) c' c1.toArray ty hg1 (by simp;omega)
  rw[h,hc2]
 have hres:c2.take ((T.length - 1) * 2)=tbCells (T.eraseIdx i):=by
  have e1:c2.take ((T.length - 1) * 2)=c1.take ((T.length - 1) * 2):=by
   rw[hc2]
   unfold ovr
   rw[List.append_assoc,List.take_append_of_le_length (by simp;omega),List.take_take,Nat.min_self]
  rw[e1,tb_erase,← hDd,hc1]
  unfold ovr
  have e2:cur.toList.take (i * 2)=(tbCells T).take (i * 2):=by rw[← htake,List.take_take,Nat.min_eq_left (by omega)]
  have e3:(T.length - 1) * 2=(cur.toList.take (i * 2)++Dl).length:=by simp;omega
  rw[e3,List.take_left,e2]
 have hfin:∀ W,W=W1.setRow g c2.toArray→W.ownsRow 0 419 2 (.slice (some ⟨g,0,none⟩) (T.length - 1) cap) (T.length - 1) (tbCells (T.eraseIdx i))∧w.grownBy W (some g):=fun W hW=>by
  rw[hW]
  refine⟨⟨by rw[tb_len,List.length_eraseIdx,if_pos hi],.inr ⟨g,cap,c2.toArray,rfl,Nat.zero_le _,setRow_heap W1 g _ _ _ _ hg1,by omega,hcm,by simpa using hc2l,by simpa using hres⟩⟩,?_⟩
  refine⟨by rw[hW1];rfl,by rw[hW1];rfl,by rw[hW1];rfl,by rw[hW1];simp[World.setRow],fun k hk hkg=>?_⟩
  have hkg':k≠g:=fun e=>hkg (by rw[e])
  rw[setRow_other W1 g k _ hkg',hW1,setRow_other w.drew g k _ hkg'];rfl
 have HFIN:=hde hfin
 have HRA:=hde hrA
 have HCLR:=hde hclr
 unfold maxLen at hcm
 have hi':(i:Int) < (T.length:Int):=by omega
 clear hfin hrA hclr hres hcell hDd hDl hc1 hc2 hc1l hc2l hg hcs htake hg1 hW1 hD1 hcl
 by_cases hjc:i+1=cap
 ·subst hjc
  have q3:i+1≤T.length:=by omega
  have q4:(i:Int)+1≤(T.length:Int):=by omega
  have q5:((i:Int)+1).toNat=i+1:=by omega
  have q6:(0:Int)≤(i:Int)+1:=by omega
  have q7:(T.length:Int)≤((i+1:Nat):Int):=by omega
  have q8:¬ (i+1=T.length - 1):=by omega
  have q9:(i:Int)≤(i:Int)+1:=by omega
  have hrB:∀ ty o' c',(Builtin.append_ #[265,265] ty #[.slice (some ⟨g,0,none⟩) i (i+1),.slice (some ⟨g,o',none⟩) 0 c']).run Tryz.prog w.drew = .ok (.slice (some ⟨g,0,none⟩) (T.length - 1) (i+1)) W1:=fun ty o' c'=>by
   have h:=(uh HRA) ty o' c' (Or.inr (by omega))
   rw[show T.length - (i+1)=0 by omega] at h
   exact h
  have HRB:=hde hrB
  clear hrB
  go_enter Tryz.func336,Tryz.ntmps336
  go_wp2_with fail
  go_region_law (refine step_append_run rfl (.tmp 22) (.tmp 25) 265 265 rfl _ _ (by first | rfl | (simp[Act.eval,Act.put];done) | (simp[Act.eval,Act.put];rfl)) (by first | rfl | (simp[Act.eval,Act.put];done) | (simp[Act.eval,Act.put];rfl)) ((uh HRB) _ _ _) ?_)
  all_goals
   have hclr2:∀ ty c',(Builtin.clear_ #[265] ty #[.slice (some ⟨g,(T.length - 1) * 2,none⟩) (T.length - (T.length - 1)) c']).run Tryz.prog W1 = .ok (.tuple #[]) (W1.setRow g c2.toArray):=fun ty c'=>by
    rw[show T.length - (T.length - 1)=1 by omega];exact(uh HCLR) W1 rfl ty c'
   go_wp2
   go_ret
   exact⟨rfl,(uh HFIN) _ rfl⟩
 ·have hjc':¬ (cap=i+1):=by omega
  have q0:¬ (cap=i):=by omega
  have q1:i≤cap:=by omega
  have q2:(i:Int)≤(cap:Int):=by omega
  have q3:i+1≤T.length:=by omega
  have q4:(i:Int)+1≤(T.length:Int):=by omega
  have q5:((i:Int)+1).toNat=i+1:=by omega
  have q6:(0:Int)≤(i:Int)+1:=by omega
  have q7:(T.length:Int)≤(cap:Int):=by omega
  have q8:¬ (cap=T.length - 1):=by omega
  go_enter Tryz.func336,Tryz.ntmps336
  go_wp2_with fail
  go_region_law (refine step_append_run rfl (.tmp 22) (.tmp 25) 265 265 rfl _ _ (by first | rfl | (simp[Act.eval,Act.put];done) | (simp[Act.eval,Act.put];rfl)) (by first | rfl | (simp[Act.eval,Act.put];done) | (simp[Act.eval,Act.put];rfl)) ((uh HRA) _ _ _ (Or.inl rfl)) ?_)
  all_goals
   have hclr2:∀ ty c',(Builtin.clear_ #[265] ty #[.slice (some ⟨g,(T.length - 1) * 2,none⟩) (T.length - (T.length - 1)) c']).run Tryz.prog W1 = .ok (.tuple #[]) (W1.setRow g c2.toArray):=fun ty c'=>by
    rw[show T.length - (T.length - 1)=1 by omega];exact(uh HCLR) W1 rfl ty c'
   go_wp2
   go_ret
   exact⟨rfl,(uh HFIN) _ rfl⟩
theorem remove_any (D o:Nat) (C:Array Value) (tD:TypeId) (v:Value) (T:Sd.Tb) (y:ByteArray) (w:World) (h:TabIn w D o C tD v T) (hne:v.ownBlock≠some D) :
  Calls Tryz.prog 308 #[.pointer (some ⟨D,o,none⟩),.string y] w fun e w'=>e = .returned (.tuple #[])∧∃ v',TabNew w w' D o C tD v v' (Sd.trem T y):=by
 have hoC:o < C.size:=(Array.getElem?_eq_some_iff.1 h.at_).1
 cases hh:Sd.thas T y with
 | false =>
  have e0:Sd.trem T y=T:=by unfold Sd.trem;rw[hh];rfl
  rw[e0]
  have HH:=hde hh
  have HTAB:=hde h
  clear hh h e0
  go_enter Tryz.func308,Tryz.ntmps308
  go_wp2_with fail
  refine(place_any D o C tD v T y w (uh HTAB)).mono ?_
  rintro e w' ⟨rfl,hb⟩
  rw[uh HH]
  go_wp2
  have hn:=(uh HTAB).below hb
  refine bodyPost_end (results_none rfl _ _ _) rfl ⟨rfl,v,?_,hn.row,Kept.below hb _,Or.inl rfl⟩
  rw[hn.blk]
  have:C.setIfInBounds o v=C:=by
   have hv:=(Array.getElem?_eq_some_iff.1 hn.at_).2
   rw[← hv];simp[Array.setIfInBounds,hoC]
  rw[this]
 | true =>
  obtain⟨hj,_,_⟩:=Sd.tget_at h.srt hh
  have e0:Sd.trem T y=T.eraseIdx (Sd.tlow T y):=by unfold Sd.trem;rw[hh];rfl
  rw[e0]
  have HH:=hde hh
  have HTAB:=hde h
  have hl:=h.len
  clear hh h e0
  go_enter Tryz.func308,Tryz.ntmps308
  go_wp2_with fail
  refine(place_any D o C tD v T y w (uh HTAB)).mono ?_
  rintro e w1 ⟨rfl,hb⟩
  rw[uh HH]
  have hn:=(uh HTAB).below hb
  have hc:=hn.cell
  rcases hn.row.2 with ⟨_,h0⟩ | ⟨g,cap,cur,rfl,_,hgg,hnc,hcm,hcs,htk⟩
  ·omega
  ·have hgD:some D≠(Value.slice (some ⟨g,0,none⟩) T.length cap).ownBlock:=fun e=>hne e.symm
   generalize hI:Sd.tlow T y=i at hj ⊢
   have hdel:=delete_any g cap i cur T w1 hj hnc hcm hl hgg hcs htk
   have HB:=hde hn.blk
   have HBB:=hde hb
   have hDw:D < w1.heap.size:=lt_of_block hn.blk
   have HI:=hde hI
   clear hn hgg hcs htk hI hb
   go_wp2_with fail
   refine hdel.mono ?_
   rintro e w2 ⟨rfl,ho2,hg2⟩
   have htb:w2.heap[D]? = some (.cells C tD (0,0)):=(hg2.block D hDw (fun e=>hgD e)).trans (uh HB)
   have hc2:w2.cell? ⟨D,o,none⟩=some (.slice (some ⟨g,0,none⟩) T.length cap):=by rw[cell_of_row w2 D o _ _ _ htb];exact(uh HTAB).at_
   have hf2:w2.frozen? ⟨D,o,none⟩=false:=by simp[World.frozen?,htb]
   have H:=hde (And.intro ho2 (And.intro hg2 htb))
   clear ho2 hg2 htb hdel hc
   go_wp2
   obtain⟨ho2,hg2,htb⟩:=uh H
   refine bodyPost_end (results_none rfl _ _ _) rfl ⟨rfl,.slice (some ⟨g,0,none⟩) (T.length - 1) cap,?_,?_,?_,Or.inl rfl⟩
   ·rw[heap_setCell_same w2 D o _ _ _ htb]
   ·rw[uh HI,List.length_eraseIdx,if_pos hj]
    exact ownsRow_setCell_other ho2 (fun e=>hgD e.symm) _
   ·exact((Kept.below (uh HBB) _).trans (Kept.grown hg2 (fun k hk=>hk.2))).setCell (fun hk=>hk.1 rfl) _
end Go.Proofs.YteflnddphpjahaaGreatDoor.Dk
