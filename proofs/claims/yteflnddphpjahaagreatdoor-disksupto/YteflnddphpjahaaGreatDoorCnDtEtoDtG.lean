import Derived.Test.YteflnddphpjahaaGreatDoorCnDtCtoDtD
import Derived.OneCell
import Derived.Deep.DeepMust
import Derived.Lib.SliceRun
import Derived.RangeFuncNested
import Derived.RangeFuncBound
import Derived.RangeFuncCalls
import Derived.RangeFuncLeaves
import Derived.RangeFuncBox
import Derived.Maps.AppendAt
import Derived.Shelf.Abstract
import Derived.Shelf.RegionOpen
import Derived.WalkKit
import Derived.OwnWalkIn
import Derived.TacticsInMore
import Derived.LoopNIn
import Derived.LoopIn
set_option linter.unusedVariables false
set_option linter.unusedSimpArgs false
set_option maxRecDepth 100000
set_option maxHeartbeats 16000000
namespace Go.Proofs.YteflnddphpjahaaGreatDoor.Dk
open Go.RowKit
structure TabNew (w w':World) (D o:Nat) (C:Array Value) (tD:TypeId) (v v':Value) (T':Sd.Tb):Prop where
 blk:w'.heap[D]? = some (.cells (C.setIfInBounds o v') tD (0,0))
 row:w'.ownsRow 0 419 2 v' T'.length (tbCells T')
 kept:Kept w w' (fun k=>k≠D∧v.ownBlock≠some k)
 new:v'.ownBlock=v.ownBlock∨∃ g,v'.ownBlock=some g∧w.heap.size≤g
theorem add_any (D o:Nat) (C:Array Value) (tD:TypeId) (v:Value) (T:Sd.Tb) (y:ByteArray) (f:Nat) (w:World) (h:TabIn w D o C tD v T) (hne:v.ownBlock≠some D) :
  Calls Tryz.prog 337 #[.pointer (some ⟨D,o,none⟩),.string y,fptr f] w fun e w'=>e = .returned (.bool (!Sd.thas T y))∧∃ v',TabNew w w' D o C tD v v' (if Sd.thas T y=true then T else Sd.tins T y f):=by
 have hoC:o < C.size:=(Array.getElem?_eq_some_iff.1 h.at_).1
 cases hh:Sd.thas T y with
 | true =>
  have HH:=hde hh
  have HTAB:=hde h
  clear hh h
  go_enter Tryz.func337,Tryz.ntmps337
  go_wp2_with fail
  refine(place_any D o C tD v T y w (uh HTAB)).mono ?_
  rintro e w' ⟨rfl,hb⟩
  rw[uh HH]
  go_wp2
  go_ret
  have hn:=(uh HTAB).below hb
  refine⟨rfl,v,?_,?_,Kept.below hb _,Or.inl rfl⟩
  ·rw[hn.blk]
   have:C.setIfInBounds o v=C:=by
    have hv:=(Array.getElem?_eq_some_iff.1 hn.at_).2
    rw[← hv];simp[Array.setIfInBounds,hoC]
   rw[this]
  ·exact hn.row
 | false =>
  have HH:=hde hh
  have HTAB:=hde h
  have hl:=h.len
  clear hh h
  go_enter Tryz.func337,Tryz.ntmps337
  go_wp2_with fail
  refine(place_any D o C tD v T y w (uh HTAB)).mono ?_
  rintro e w1 ⟨rfl,hb⟩
  rw[uh HH]
  have hn:=(uh HTAB).below hb
  have hu:=hn.blk
  have ho:=hn.row
  have hc:=hn.cell
  have hD1:D < w1.heap.size:=lt_of_block hu
  have hcs:(w1.alloc (.cells #[.string y,fptr f] 419)).heap[D]? = some (.cells C tD (0,0)):=by rw[Below.heap_alloc _ _ _ hD1];exact hu
  have HCS:=hde hcs
  have HO:=hde ho
  obtain⟨p,cap,rfl,_⟩:=osl ho
  have hlow:=Sd.tlow_le T y
  clear hu ho hcs hn
  unfold fptr
  go_wp2_with fail
  refine(insert_any 0 w1.heap.size (.slice p T.length cap) T (Sd.tlow T y) y f _ hlow (by simp) ((uh HO).alloc _) hl (fun hq=>by have:=((uh HO).lt _ hq).2;omega) (heap_alloc_new w1 _)).mono ?_
  rintro e w2 ⟨v',rfl,ho2,hg2,hnw⟩
  have htb:w2.heap[D]? = some (.cells C tD (0,0)):=by
   rw[hg2.block D (by simp;omega) (fun hq=>hne hq.symm)];exact uh HCS
  have hc2:w2.cell? ⟨D,o,none⟩=some (.slice p T.length cap):=by rw[cell_of_row w2 D o _ _ _ htb];exact(uh HTAB).at_
  have hf2:w2.frozen? ⟨D,o,none⟩=false:=by simp[World.frozen?,htb]
  obtain⟨p',cap',rfl,_⟩:=osl ho2
  have HTB:=hde htb
  have HNW:=hde hnw
  clear htb hc hnw
  go_wp2
  go_ret
  have hkk:Kept w w2 (fun k=>k≠D∧(Value.slice p T.length cap).ownBlock≠some k):=
   (Kept.below hb _).trans (((Kept.refl w1 _).alloc _).trans (Kept.grown hg2 (fun k hk=>hk.2)))
  have hnew:(Value.slice p' (T.length+1) cap').ownBlock=(Value.slice p T.length cap).ownBlock∨∃ g,(Value.slice p' (T.length+1) cap').ownBlock=some g∧w.heap.size≤g:=by
   rcases uh HNW with e | e
   ·exact Or.inl e
   ·exact Or.inr ⟨_,e,by have:=hb.size;simp;omega⟩
  refine⟨rfl,.slice p' (T.length+1) cap',?_,?_,hkk.setCell (fun hk=>hk.1 rfl) _,hnew⟩
  ·rw[heap_setCell_same w2 D o _ _ _ (uh HTB)]
  ·rw[Sd.tins_len]
   refine ownsRow_setCell_other ho2 (fun hq=>?_) _
   rcases uh HNW with e | e
   ·rw[e] at hq;exact hne hq
   ·rw[e] at hq
    simp at hq
    omega
theorem own_set {w:World} {B e size n g j cap:Nat} {p:Option Addr} {xs:List Value} (u:Value) (h:w.ownsRow B e size (.slice (some ⟨g,0,none⟩) n cap) n xs) (hj:j < xs.length) :
  (w.setCell ⟨g,j,none⟩ u).ownsRow B e size (.slice (some ⟨g,0,none⟩) n cap) n (xs.set j u):=by
 obtain⟨h1,h2⟩:=h
 refine⟨by rw[List.length_set];exact h1,?_⟩
 rcases h2 with ⟨h2,_⟩ | ⟨g',cap',cur,hv,hB,hg,q1,q2,q3,q4⟩
 ·cases h2
 ·injection hv with hv1 hv2 hv3
  injection hv1 with hv1
  injection hv1 with hv1
  subst hv1 hv3
  refine .inr ⟨g,cap,_,rfl,hB,heap_setCell_same w g j _ _ u hg,q1,q2,by rw[Array.size_setIfInBounds];exact q3,?_⟩
  rw[Array.toList_setIfInBounds,List.take_set,q4]
theorem tb_set (T:Sd.Tb):∀ (i:Nat) (hi:i < T.length) (y:ByteArray) (f:Nat),(T[i]).1=y→(tbCells T).set (i * 2+1) (fptr f)=tbCells (T.set i (y,f)):=by
 induction T with
 | nil=>intro i hi;simp at hi
 | cons p t ih =>
  intro i hi y f hy
  have e:tbCells (p :: t) = .string p.1 :: fptr p.2 :: tbCells t:=by simp[tbCells]
  rw[e]
  cases i with
  | zero =>
   have hy:p.1=y:=hy
   subst hy
   simp[tbCells]
  | succ i =>
   have h1:=ih i (by simpa using hi) y f (by simpa using hy)
   rw[show (i+1) * 2+1=i * 2+1+1+1 by omega,List.set_cons_succ,List.set_cons_succ,h1]
   simp[tbCells]
theorem set_any (D o:Nat) (C:Array Value) (tD:TypeId) (v:Value) (T:Sd.Tb) (y:ByteArray) (f:Nat) (w:World) (h:TabIn w D o C tD v T) (hne:v.ownBlock≠some D) :
  Calls Tryz.prog 309 #[.pointer (some ⟨D,o,none⟩),.string y,fptr f] w fun e w'=>e = .returned (.tuple #[])∧∃ v',TabNew w w' D o C tD v v' (Sd.tset T y f):=by
 have hoC:o < C.size:=(Array.getElem?_eq_some_iff.1 h.at_).1
 have hadd:=add_any D o C tD v T y f w h hne
 unfold fptr at hadd ⊢
 cases hh:Sd.thas T y with
 | false =>
  have e0:Sd.tset T y f=Sd.tins T y f:=by unfold Sd.tset;rw[hh];rfl
  rw[e0]
  rw[hh] at hadd
  clear hh h e0
  go_enter Tryz.func309,Tryz.ntmps309
  go_wp2_with fail
  refine hadd.mono ?_
  rintro e w1 ⟨rfl,v',hn⟩
  clear hadd
  go_wp2
  exact bodyPost_ret (v := .tuple #[]) (results_none rfl _ _ _) rfl ⟨rfl,v',hn⟩
 | true =>
  obtain⟨hj,e1,e2⟩:=Sd.tget_at h.srt hh
  have e0:Sd.tset T y f=T.set (Sd.tlow T y) (y,f):=by unfold Sd.tset;rw[hh];rfl
  rw[e0]
  rw[hh] at hadd
  have HH:=hde hh
  have HTAB:=hde h
  have hl:=h.len
  clear hh h e0 e2
  go_enter Tryz.func309,Tryz.ntmps309
  go_wp2_with fail
  refine hadd.mono ?_
  rintro e w1 ⟨rfl,v',hn⟩
  clear hadd
  have hin:TabIn w1 D o (C.setIfInBounds o v') tD v' T:=⟨hn.blk,by simp[hoC],hn.row,(uh HTAB).srt,hl⟩
  have hne1:v'.ownBlock≠some D:=fun hq=>by
   rcases hn.new with e | ⟨g,e,hg⟩
   ·rw[e] at hq;exact hne hq
   ·rw[e] at hq
    have hq:g=D:=Option.some.inj hq
    have:=lt_of_block (uh HTAB).blk
    omega
  have HN:=hde hn
  have HIN:=hde hin
  clear hn hin
  go_wp2_with fail
  refine(place_any D o _ tD v' T y w1 (uh HIN)).mono ?_
  rintro e w2 ⟨rfl,hb⟩
  rw[uh HH]
  have hin2:=(uh HIN).below hb
  have hc:=hin2.cell
  have hrow:=hin2.row
  have hblk:=hin2.blk
  have HROW:=hde hrow
  have HBLK:=hde hblk
  obtain⟨p,cap,rfl,he⟩:=ents_of_own hrow
  obtain⟨g,hp,c0,c1⟩:=he (Sd.tlow T y) hj
  subst hp
  have hgf:w2.frozen? ⟨g,Sd.tlow T y * 2+1,none⟩=false:=by
   rcases hrow.2 with ⟨hv,_⟩ | ⟨g',cap',cur,hv,_,hgg,_⟩
   ·cases hv
   ·injection hv with hv _ _
    injection hv with hv
    injection hv with hv
    subst hv
    simp[World.frozen?,hgg]
  have HE1:=hde e1
  have hgD:g≠D:=fun e=>hne1 (by rw[e];rfl)
  generalize hI0:Sd.tlow T y=i at hj c0 c1 hgf HE1 ⊢
  clear he hrow hblk hin2 e1
  have HI:=hde hI0
  clear hI0
  unfold fptr at c1
  go_wp2
  have hfin:TabNew w (w2.setCell ⟨g,i * 2+1,none⟩ (.pointer (some ⟨f,0,none⟩))) D o C tD v (.slice (some ⟨g,0,none⟩) T.length cap) (T.set i (y,f)):=by
   have hn:=uh HN
   refine⟨?_,?_,?_,hn.new⟩
   ·rw[Below.heap_setCell w2 _ _ D (fun e=>hgD e.symm)];exact uh HBLK
   ·rw[List.length_set,← tb_set T i hj y f (uh HE1)]
    exact own_set (p:=none) _ (uh HROW) (by rw[tb_len];omega)
   ·refine(hn.kept.trans (Kept.below hb _)).setCell' (fun k hk ho hkg=>?_) _
    rcases hn.new with e | ⟨g',e,hg'⟩
    ·exact ho.2 (by rw[← e,hkg];rfl)
    ·have:g=g':=Option.some.inj e
     have hkg:k=g:=hkg
     omega
  have HFIN:=hde hfin
  clear hfin
  exact bodyPost_end (results_none rfl _ _ _) rfl ⟨rfl,.slice (some ⟨g,0,none⟩) T.length cap,by rw[uh HI];exact uh HFIN⟩
def ClonePost (T:Sd.Tb) (w:World) (e:Ending) (w':World):Prop :=
 ∃ v',e = .returned v'∧w'.ownsRow 0 419 2 v' T.length (tbCells T)∧Below w.heap.size w w'∧∀ g,v'.ownBlock=some g→w.heap.size≤g
theorem sclone_any (v:Value) (T:Sd.Tb) (w:World) (h:w.ownsRow 0 419 2 v T.length (tbCells T)) (hl:T.length≤100000) :
  Calls Tryz.prog 338 #[v] w (ClonePost T w):=by
 rcases h.2 with ⟨rfl,hn⟩ | ⟨g,cap,cur,rfl,_,hg,hnc,hcm,hcs,htk⟩
 ·have hnil:=Lib.run_eql_slice_nil (P:=Tryz.prog) w 265 419 none 0 0 0 0 Tryz.underlying265
  simp only[Option.isNone_none] at hnil
  go_enter Tryz.func338,Tryz.ntmps338
  go_wp2
  go_ret
  exact⟨_,rfl,h,Below.refl _ _,fun g hg=>by simp[Value.ownBlock] at hg⟩
 ·have hnil:=Lib.run_eql_slice_nil (P:=Tryz.prog) w 265 419 (some ⟨g,0,none⟩) T.length cap 0 0 Tryz.underlying265
  simp only[Option.isNone_some] at hnil
  by_cases h0:T=[]
  ·subst h0
   simp only[List.length_nil] at hnil
   clear h hg hcs htk
   go_enter Tryz.func338,Tryz.ntmps338
   go_wp2
   go_ret
   refine⟨_,rfl,⟨rfl,.inr ⟨w.heap.size,0,#[],rfl,Nat.zero_le _,heap_alloc_new w _,Nat.le_refl _,by unfold maxLen;omega,rfl,rfl⟩⟩,(Below.refl _ w).alloc nlr _,fun g' hg'=>?_⟩
   simp[Value.ownBlock] at hg'
   omega
  ·obtain⟨i0,hi,hz0,hz1,hz2⟩:=info_parts Tryz.info_entry
   have hpos:0 < T.length:=by
    rcases T with _ | ⟨a,b⟩
    ·exact absurd rfl h0
    ·simp
   have hlit:=World.ownsRow_lit (base:=w.heap.size) (e:=419) (size:=2) w #[] 0 nlr (by unfold maxLen;omega) (by rfl)
   have hsrc:=(h.alloc (.cells #[] 419)).cells (g:=g) rfl
   have HSRC:=hde hsrc
   have HLIT:=hde hlit
   clear hsrc hlit hg hnc hcm hcs htk h
   go_enter Tryz.func338,Tryz.ntmps338
   go_wp2_with (first
    | (at_builtin;go_must (refine wpList_append_keeps _ rfl (.tmp 5) (.tmp 6) 265 rfl w.heap.size 419 i0 _ 2 24 Tryz.underlying265 hi hz0 hz1 hz2 rfl (by decide) _ 0 [] rfl (uh HLIT) ⟨g,0,none⟩ T.length cap hpos (tbCells T) rfl (tb_len T) (uh HSRC) (tb_one T) (by unfold maxLen;omega) (by omega) (by simp) ?_))
    | go_in)
   intro v3 w3 h3 hg3 hn3 _
   have hown:w3.ownsRow w.heap.size 419 2 v3 T.length (tbCells T):=by simpa using h3
   have hbel:Below w.heap.size w w3:=((Below.refl _ w).alloc nlr _).grown hg3 (by simp) (fun k hk=>by simp[Value.ownBlock] at hk;omega)
   clear h3 hg3 hn3
   go_wp2
   go_ret
   exact⟨v3,rfl,own_zero hown,hbel,fun g' hg'=>(hown.lt g' hg').1⟩
def TClonePost (T:Sd.Tb) (w:World) (e:Ending) (w':World):Prop :=
 ∃ v',e = .returned (.agg #[v'])∧w'.ownsRow 0 419 2 v' T.length (tbCells T)∧Below w.heap.size w w'∧∀ g,v'.ownBlock=some g→w.heap.size≤g
theorem tclone_any (D o:Nat) (C:Array Value) (tD:TypeId) (v:Value) (T:Sd.Tb) (w:World) (h:TabIn w D o C tD v T) :
  Calls Tryz.prog 310 #[.pointer (some ⟨D,o,none⟩)] w (TClonePost T w):=by
 have hc:=h.cell
 have hD:D < w.heap.size:=lt_of_block h.blk
 have hr:=fun o=>sclone_any v T (w.alloc o) (h.row.alloc o) h.len
 obtain⟨p,cap,rfl,_⟩:=osl h.row
 clear h
 go_enter Tryz.func310,Tryz.ntmps310
 go_wp2_with fail
 refine(hr _).mono ?_
 rintro e w1 ⟨v',rfl,h1,hb,hn⟩
 have H:=hde (And.intro h1 (And.intro hb hn))
 have hrb:w1.heap[w.heap.size]? = some (.cells #[.slice none 0 0] 267 (0,0)):=(hb.block w.heap.size (by simp)).trans (heap_alloc_new w _)
 have hrc:w1.cell? ⟨w.heap.size,0,none⟩=some (.slice none 0 0):=by rw[cell_of_row w1 _ 0 _ _ _ hrb];rfl
 have hrf:w1.frozen? ⟨w.heap.size,0,none⟩=false:=by simp[World.frozen?,hrb]
 obtain⟨p',cap',rfl,_⟩:=osl h1
 clear h1 hb hn hr hrb
 go_wp2
 have hcell:(w1.setCell ⟨w.heap.size,0,none⟩ (.slice p' T.length cap')).cell? ⟨w.heap.size,0,none⟩=some (.slice p' T.length cap'):=World.cell?_setCell_same _ _ _ hrc
 obtain⟨h1,hb,hn⟩:=uh H
 refine bodyPost_ret (v := .agg #[.slice p' T.length cap']) (by simp[results,Tryz.results310,go_sem,hcell]) rfl ⟨_,rfl,?_,?_,fun g hg=>?_⟩
 ·refine ownsRow_setCell_other h1 (fun hq=>?_) _
  have:=hn _ hq
  simp at this
  omega
 ·exact(((Below.refl _ w).alloc nlr _).trans (hb.mono (by simp))).setCell nlr _
 ·have:=hn g hg
  simp at this
  omega
open Go.RowKit Go.Shelf
attribute [local go_sem] Oper.semAt_some
structure KeptN (N:Nat) (ok:Nat→Prop) (w w':World):Prop where
 os:w'.os=w.os
 tape:w'.tape=w.tape
 output:w'.output=w.output
 size:w.heap.size≤w'.heap.size
 block:∀ k,k < N→ok k→w'.heap[k]? = w.heap[k]?
theorem KeptN.refl (N:Nat) (ok:Nat→Prop) (w:World):KeptN N ok w w:=⟨rfl,rfl,rfl,Nat.le_refl _,fun _ _ _=>rfl⟩
theorem KeptN.trans {N:Nat} {ok:Nat→Prop} {a b c:World} (h:KeptN N ok a b) (k:KeptN N ok b c):KeptN N ok a c :=
 ⟨k.os.trans h.os,k.tape.trans h.tape,k.output.trans h.output,Nat.le_trans h.size k.size,fun i hi ho=>(k.block i hi ho).trans (h.block i hi ho)⟩
theorem KeptN.alloc {N:Nat} {ok:Nat→Prop} {a w:World} (h:KeptN N ok a w) (hN:N≤w.heap.size) (o:Obj):KeptN N ok a (w.alloc o):=
 ⟨h.os,h.tape,h.output,by have:=h.size;simp;omega,fun k hk ho=>(Below.heap_alloc w o k (by omega)).trans (h.block k hk ho)⟩
theorem KeptN.cell {N:Nat} {ok:Nat→Prop} {w w':World} (h:KeptN N ok w w') {p:Addr} (hp:p.block < N) (ho:ok p.block):w'.cell? p=w.cell? p:=World.cell?_of_block (w:=w) (h.block p.block hp ho)
theorem KeptN.of {N:Nat} {ok:Nat→Prop} {w w':World} (h:Kept w w' ok) (hN:N≤w.heap.size):KeptN N ok w w':=⟨h.os,h.tape,h.output,h.size,fun k hk ho=>h.block k (by omega) ho⟩
theorem KeptN.to {ok:Nat→Prop} {w w':World} (h:KeptN w.heap.size ok w w'):Kept w w' ok:=⟨h.os,h.tape,h.output,h.size,h.block⟩
theorem KeptN.putObj {N:Nat} {ok:Nat→Prop} (W:World) (l:Nat) (o o':Obj) (hl:N≤l) (h:W.heap[l]? = some o):KeptN N ok W (W.putObj l o'):=by
 have hg:=grownBy_putObj' W l o'
 exact⟨hg.os,hg.tape,hg.output,hg.size,fun k hk _=>hg.block k (by have:=(Array.getElem?_eq_some_iff.1 h).1;omega) (by simp;omega)⟩
theorem all_in (F:Fence) (n:Nat) (h5:F.fn 234) (hro:F.round=none) (p0:Option Addr) (w:World) :
  CallsIn F n Tryz.prog 234 #[.pointer p0] w fun e w'=>e = .returned (.func (.func 291) #[] #[.pointer (some ⟨w.heap.size,0,none⟩)])∧w'=w.alloc (.cells #[.pointer p0] 393):=by
 refine callsIn_of_wp Tryz.func234 rfl h5 ?_ hro
 simp only[Tryz.ntmps234,List.size_toArray,List.length_cons,List.length_nil,Nat.reduceAdd,Nat.reduceSub,Array.replicate_succ,Array.replicate_zero,List.push_toArray,List.append_toArray,List.nil_append,List.cons_append]
 gi_wp2
 go_ret
 exact⟨rfl,rfl⟩
theorem all1_in (F:Fence) (n:Nat) (h8:F.fn 291) (hro:F.round=none) (hn:1≤n) (l Bs D o N:Nat) (ok:Nat→Prop) (p:Option Addr) (cap:Nat) (T:Sd.Tb) (hl:T.length≤100000) (J Jx:List { x:ByteArray × Nat // x ∈ T }→World→Prop)
  (hY:∀ pre x W,J pre W→pre.length < T.length→YieldAt F (n - 1) Tryz.prog l #[.string x.1.1,fptr x.1.2] W fun e W' =>
    (e = .returned (.bool true)∧J (pre++[x]) W'∧KeptN N ok W W')∨(e = .returned (.bool false)∧Jx (pre++[x]) W'))
  (W:World) (hN:N≤W.heap.size) (hJa:AbidesFrom W.heap.size J) (hBs:W.cell? ⟨Bs,0,none⟩=some (.pointer (some ⟨D,o,none⟩))) (ht:W.cell? ⟨D,o,none⟩=some (.slice p T.length cap))
  (hc:∀ j (hj:j < T.length),∃ g,p=some ⟨g,0,none⟩∧g < N∧ok g∧W.cell? ⟨g,j * 2,none⟩=some (.string T[j].1)∧W.cell? ⟨g,j * 2+1,none⟩=some (fptr T[j].2)) (h0:J [] W) :
  CallsIn F n Tryz.prog 291 #[.func (.yield l) #[] #[],.pointer (some ⟨Bs,0,none⟩)] W fun e W'=>(∃ v,e = .returned v) ∧
   ((∃ ys,ys=T.attach∧J ys W')∨(∃ pre,pre <+: T.attach∧Jx pre W')):=by
 refine callsIn_of_wp Tryz.func291 rfl h8 ?_ hro
 simp only[Tryz.ntmps291,List.size_toArray,List.length_cons,List.length_nil,Nat.reduceAdd,Nat.reduceSub,Array.replicate_succ,Array.replicate_zero,List.push_toArray,List.append_toArray,List.nil_append,List.cons_append]
 gi_wp2
 gi_loopw [10] (fun i wr=>∃ k:Nat,k≤T.length∧i = .int .i64 k∧Hid (J (T.attach.take k) wr)∧KeptN N ok W wr)
  (fun i _=>T.length - (intOf i).toNat)
 case atStart=>exact⟨0,Nat.zero_le _,rfl,h0,KeptN.refl _ _ _⟩
 case round =>
  obtain⟨k,hk,rfl,HJ,hnx⟩:=hrel
  by_cases hlt:k < T.length
  ·obtain⟨g,rfl,hg,hok,c0,c1⟩:=hc k hlt
   have d0:=(hnx.cell (p:=⟨g,k * 2,none⟩) hg hok).trans c0
   have d1:=(hnx.cell (p:=⟨g,k * 2+1,none⟩) hg hok).trans c1
   have hltz:(k:Int) < (T.length:Int):=by omega
   have hla:T.attach.length=T.length:=List.length_attach
   obtain⟨x,hx⟩:∃ x,T.attach[k]'(by omega)=x:=⟨_,rfl⟩
   have hxv:T[k]=x.1:=by rw[← hx];simp
   rw[hxv] at d0 d1
   have HX:=hde hx
   clear hx c0 c1 hxv
   have hJ1:J (T.attach.take k) (wr.alloc (.cells #[.string x.1.1,fptr x.1.2] 419)):=hJa _ _ _ none (uh HJ) (World.grownBy_alloc _ _ none) (fun r e=>by cases e)
   obtain⟨fn,tmps,assign,body,hy,hR⟩:=hY _ x _ hJ1 (by rw[List.length_take];omega)
   clear hJ1
   unfold fptr at d1 hy hR
   gi_wp2
   refine hR.mono ?_
   rintro e W3 (⟨rfl,hJ3,hk3⟩ | ⟨rfl,hJx3⟩)
   ·have HJ3:=hde hJ3
    clear hJ3
    gi_wp2
    go_roundw
    case rel=>exact⟨k+1,by omega,by go_num,by show J _ _;rw[List.take_succ_eq_append_getElem (by omega),uh HX];exact uh HJ3,hnx.trans (((KeptN.refl N ok _).alloc (Nat.le_trans hN hnx.size) _).trans hk3)⟩
    case measure=>simp[intOf];omega
   ·have HJ3:=hde hJx3
    clear hJx3
    gi_wp2
    refine bodyPost_ret (results_none rfl _ _ _) rfl ?_
    exact⟨⟨_,rfl⟩,.inr ⟨_,⟨T.attach.drop (k+1),by rw[← uh HX,← List.take_succ_eq_append_getElem (by omega),List.take_append_drop]⟩,uh HJ3⟩⟩
  ·have hltz:¬ (k:Int) < (T.length:Int):=by omega
   obtain rfl:k=T.length:=by omega
   gi_wp2
   go_end0
   exact⟨⟨_,rfl⟩,.inl (by have h:=uh HJ;rw[List.take_of_length_le (by rw[List.length_attach];omega)] at h;first | exact h | exact⟨_,rfl,h⟩)⟩
theorem all_stops (F:Fence) (n:Nat) (h8:F.fn 291) (hro:F.round=none) (hn:1≤n) (Bs D o N:Nat) (ok:Nat→Prop) (p:Option Addr) (cap:Nat) (T:Sd.Tb) (hl:T.length≤100000) (w:World) (hBs':Bs < w.heap.size) (hN:N≤w.heap.size) (htn:D < w.heap.size)
  (hBs:w.cell? ⟨Bs,0,none⟩=some (.pointer (some ⟨D,o,none⟩))) (ht:w.cell? ⟨D,o,none⟩=some (.slice p T.length cap))
  (hc:∀ j (hj:j < T.length),∃ g,p=some ⟨g,0,none⟩∧g < N∧ok g∧w.cell? ⟨g,j * 2,none⟩=some (.string T[j].1)∧w.cell? ⟨g,j * 2+1,none⟩=some (fptr T[j].2)) :
  SeqStopsK F n Tryz.prog 291 #[.pointer (some ⟨Bs,0,none⟩)] (fun x:{ x:ByteArray × Nat // x ∈ T }=>#[Value.string x.1.1,fptr x.1.2]) (KeptN N ok) (fun ys=>ys=T.attach) (fun pre=>pre <+: T.attach) T.length w:=fun l J Jx W hW hJ _ hY h0 =>
 all1_in F n h8 hro hn l Bs D o N ok p cap T hl J Jx hY W (Nat.le_trans hN hW.size) hJ ((hW.cell (p:=⟨Bs,0,none⟩) hBs').trans hBs) ((hW.cell (p:=⟨D,o,none⟩) htn).trans ht)
  (fun j hj=>by obtain⟨g,e,hg,hok,c0,c1⟩:=hc j hj;exact⟨g,e,hg,hok,(hW.cell (p:=⟨g,j * 2,none⟩) (Nat.lt_of_lt_of_le hg hN)).trans c0,(hW.cell (p:=⟨g,j * 2+1,none⟩) (Nat.lt_of_lt_of_le hg hN)).trans c1⟩) h0
end Go.Proofs.YteflnddphpjahaaGreatDoor.Dk
