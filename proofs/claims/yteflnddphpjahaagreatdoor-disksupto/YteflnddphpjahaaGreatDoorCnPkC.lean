import Derived.Test.YteflnddphpjahaaGreatDoorCnPkB
import Derived.Test.YteflnddphpjahaaGreatDoorCnDtHtoDtI
import Derived.Deep.RegionLaw
import Derived.Deep.AppendLies
set_option linter.unusedVariables false
set_option linter.unusedSimpArgs false
set_option maxRecDepth 100000
set_option maxHeartbeats 16000000
namespace Go.Proofs.YteflnddphpjahaaGreatDoor.Pk
open Go.RowKit
open Sd (Tb)
open Dk
theorem _root_.Go.Proofs.YteflnddphpjahaaGreatDoor.Dk.TabNew.from_alloc {w w':World} {D o:Nat} {C:Array Value} {tD:TypeId} {v v':Value} {T':Sd.Tb} {ob:Obj} (h:TabNew (w.alloc ob) w' D o C tD v v' T'):TabNew w w' D o C tD v v' T' :=
 ⟨h.blk,h.row,((Kept.refl w _).alloc ob).trans h.kept,by
  rcases h.new with e | ⟨g,e,hg⟩
  ·exact Or.inl e
  ·exact Or.inr ⟨g,e,by simp at hg;omega⟩⟩
theorem _root_.Go.Proofs.YteflnddphpjahaaGreatDoor.Dk.TabNew.from_drew {w w':World} {D o:Nat} {C:Array Value} {tD:TypeId} {v v':Value} {T':Sd.Tb} (h:TabNew w.drew w' D o C tD v v' T'):TabNew w w' D o C tD v v' T' :=
 ⟨h.blk,h.row,((Kept.refl w _).drew).trans h.kept,h.new⟩
theorem makeIn_set (D:Nat) (C:Array Value) (tD:TypeId) (v:Value) (T:Sd.Tb) (y:ByteArray) (f:Nat) (w:World) (h:TabIn w D 1 C tD v T) (hne:v.ownBlock≠some D) (hy:(y.toList == [])=false) :
  Calls Tryz.prog 263 #[.agg #[.string ⟨#[]⟩,.string y,fptr f],.pointer (some ⟨D,1,none⟩)] w fun e w'=>e = .returned (.tuple #[])∧∃ v',TabNew w w' D 1 C tD v v' (Sd.tset T y f):=by
 have hset:=fun o=>set_any D 1 C tD v T y f (w.alloc o) (h.below ((Below.refl _ w).alloc nlr o)) hne
 unfold fptr at hset ⊢
 clear h
 go_enter Tryz.func263,Tryz.ntmps263
 go_wp2_with fail
 refine(hset _).mono ?_
 rintro e w1 ⟨rfl,v',hn⟩
 have HN:=hde (TabNew.from_alloc hn)
 clear hn hset
 go_wp2
 exact bodyPost_end (results_none rfl _ _ _) rfl ⟨rfl,v',uh HN⟩
theorem Tryz.info_change:(Tryz.prog.info? 391).map (fun i=>(i.zero,i.size,i.bytes))=some (some (.agg #[.string ⟨#[]⟩,.string ⟨#[]⟩,.pointer none]),3,40):=by kernel_rfl
theorem _root_.Go.Proofs.YteflnddphpjahaaGreatDoor.Dk.TabNew.comp {w w1 w2:World} {D o:Nat} {C:Array Value} {tD:TypeId} {v v1 v2:Value} {T1 T2:Sd.Tb} (h1:TabNew w w1 D o C tD v v1 T1) (h2:TabNew w1 w2 D o (C.setIfInBounds o v1) tD v1 v2 T2):TabNew w w2 D o C tD v v2 T2:=by
 refine⟨?_,h2.row,⟨h2.kept.os.trans h1.kept.os,h2.kept.tape.trans h1.kept.tape,h2.kept.output.trans h1.kept.output,Nat.le_trans h1.kept.size h2.kept.size,fun k hk ho=>(h2.kept.block k (Nat.lt_of_lt_of_le hk h1.kept.size) ⟨ho.1,fun e=>?_⟩).trans (h1.kept.block k hk ho)⟩,?_⟩
 ·rw[h2.blk]
  have e:(C.setIfInBounds o v1).setIfInBounds o v2=C.setIfInBounds o v2:=by simp
  rw[e]
 ·rcases h1.new with e1 | ⟨g,e1,hg⟩
  ·rw[e1] at e;exact ho.2 e
  ·rw[e1] at e
   have:g=k:=Option.some.inj e
   omega
 ·rcases h2.new with e | ⟨g,e,hg⟩
  ·rw[e];exact h1.new
  ·exact Or.inr ⟨g,e,Nat.le_trans h1.kept.size hg⟩
theorem _root_.Go.Proofs.YteflnddphpjahaaGreatDoor.Dk.TabNew.inside {w w1:World} {D o:Nat} {C:Array Value} {tD:TypeId} {v v1:Value} {T1:Sd.Tb} (h:TabNew w w1 D o C tD v v1 T1) (ho:o < C.size) (hT:Sd.tsorted T1) (hl:T1.length≤100000):TabIn w1 D o (C.setIfInBounds o v1) tD v1 T1 :=
 ⟨h.blk,by simp[ho],h.row,hT,hl⟩
theorem _root_.Go.Proofs.YteflnddphpjahaaGreatDoor.Dk.TabNew.neD {w w1:World} {D o:Nat} {C:Array Value} {tD:TypeId} {v v1:Value} {T1:Sd.Tb} (h:TabNew w w1 D o C tD v v1 T1) (hne:v.ownBlock≠some D) (hD:D < w.heap.size):v1.ownBlock≠some D:=fun e=>by
 rcases h.new with e1 | ⟨g,e1,hg⟩
 ·rw[e1] at e;exact hne e
 ·rw[e1] at e
  have:g=D:=Option.some.inj e
  omega
theorem makeIn_both (D:Nat) (C:Array Value) (tD:TypeId) (v:Value) (T:Sd.Tb) (x y:ByteArray) (f:Nat) (w:World) (h:TabIn w D 1 C tD v T) (hne:v.ownBlock≠some D) (hx:(x.toList == [])=false) (hy:(y.toList == [])=false) :
  Calls Tryz.prog 263 #[.agg #[.string x,.string y,fptr f],.pointer (some ⟨D,1,none⟩)] w fun e w'=>e = .returned (.tuple #[])∧∃ v',TabNew w w' D 1 C tD v v' (Sd.tset (Sd.trem T x) y f):=by
 have hoC:1 < C.size:=(Array.getElem?_eq_some_iff.1 h.at_).1
 have hrm:=fun o=>remove_any D 1 C tD v T x (w.alloc o) (h.below ((Below.refl _ w).alloc nlr o)) hne
 have hDw:D < w.heap.size:=lt_of_block h.blk
 have hvl:∀ g,v.ownBlock=some g→g < w.heap.size:=fun g hg=>own_lt h.row hg
 have hT:=Sd.trem_sorted h.srt x
 have hl:(Sd.trem T x).length≤100000:=Nat.le_trans (Sd.trem_len T x) h.len
 unfold fptr
 clear h
 go_enter Tryz.func263,Tryz.ntmps263
 go_wp2_with fail
 refine(hrm _).mono ?_
 rintro e w1 ⟨rfl,v1,hn⟩
 have hbx:w1.heap[w.heap.size]? = some (.cells #[.string x,.string y,.pointer (some ⟨f,0,none⟩)] 391 (0,0)):=by
  refine(hn.kept.block w.heap.size (by simp) ⟨by omega,fun e=>?_⟩).trans (heap_alloc_new w _)
  have:=hvl _ e
  omega
 have b1:w1.cell? ⟨w.heap.size,1,none⟩=some (.string y):=by rw[cell_of_row w1 _ 1 _ _ _ hbx];rfl
 have b2:w1.cell? ⟨w.heap.size,2,none⟩=some (.pointer (some ⟨f,0,none⟩)):=by rw[cell_of_row w1 _ 2 _ _ _ hbx];rfl
 have hset:=set_any D 1 _ tD v1 (Sd.trem T x) y f w1 (hn.inside hoC hT hl) (hn.neD hne (by simp;omega))
 unfold fptr at hset
 have HN:=hde (TabNew.from_alloc hn)
 clear hn hrm hbx
 go_wp2_with fail
 refine hset.mono ?_
 rintro e w2 ⟨rfl,v2,hn2⟩
 have HN2:=hde ((uh HN).comp hn2)
 clear hset hn2
 go_wp2
 exact bodyPost_end (results_none rfl _ _ _) rfl ⟨rfl,v2,uh HN2⟩
theorem makeIn_rem (D:Nat) (C:Array Value) (tD:TypeId) (v:Value) (T:Sd.Tb) (x:ByteArray) (w:World) (h:TabIn w D 1 C tD v T) (hne:v.ownBlock≠some D) (hx:(x.toList == [])=false) :
  Calls Tryz.prog 263 #[.agg #[.string x,.string ⟨#[]⟩,.pointer none],.pointer (some ⟨D,1,none⟩)] w fun e w'=>e = .returned (.tuple #[])∧∃ v',TabNew w w' D 1 C tD v v' (Sd.trem T x):=by
 have hrm:=fun o=>remove_any D 1 C tD v T x (w.alloc o) (h.below ((Below.refl _ w).alloc nlr o)) hne
 have hDw:D < w.heap.size:=lt_of_block h.blk
 have hvl:∀ g,v.ownBlock=some g→g < w.heap.size:=fun g hg=>own_lt h.row hg
 clear h
 go_enter Tryz.func263,Tryz.ntmps263
 go_wp2_with fail
 refine(hrm _).mono ?_
 rintro e w1 ⟨rfl,v1,hn⟩
 have hbx:w1.heap[w.heap.size]? = some (.cells #[.string x,.string ⟨#[]⟩,.pointer none] 391 (0,0)):=by
  refine(hn.kept.block w.heap.size (by simp) ⟨by omega,fun e=>?_⟩).trans (heap_alloc_new w _)
  have:=hvl _ e
  omega
 have b1:w1.cell? ⟨w.heap.size,1,none⟩=some (.string ⟨#[]⟩):=by rw[cell_of_row w1 _ 1 _ _ _ hbx];rfl
 have HN:=hde (TabNew.from_alloc hn)
 clear hn hrm hbx
 go_wp2
 exact bodyPost_end (results_none rfl _ _ _) rfl ⟨rfl,v1,uh HN⟩
def apG (T:Sd.Tb) (c:Ch):Sd.Tb :=
 match c.file with
 | some f=>if c.gone.size=0 then Sd.tset T c.name f else Sd.tset (Sd.trem T c.gone) c.name f
 | none=>Sd.trem T c.gone
theorem ne_nil {s:ByteArray} (h:¬ s=Rd.e0):(s.toList == [])=false:=by
 apply Bool.eq_false_iff.2
 intro hh
 have h1:s.toList=[]:=eq_of_beq hh
 rw[ByteArray.toList_eq] at h1
 exact h (ByteArray.ext (Array.toList_inj.1 h1))
theorem ne_size {s:ByteArray} (h:¬ s=Rd.e0):¬ s.size=0:=fun e=>h (ByteArray.ext (Array.eq_empty_of_size_eq_zero e))
def okCh (c:Ch):Prop:=(∃ f,c.file=some f∧¬ c.name=Rd.e0)∨(c.file=none∧c.name=Rd.e0∧¬ c.gone=Rd.e0)
theorem okCh_makes (D:Nat) (c:Ch) (hc:okCh c) (W:World) (C:Array Value) (v:Value) (T:Sd.Tb) (h:TabIn W D 1 C 273 v T) (hne:v.ownBlock≠some D) :
  Calls Tryz.prog 263 #[.agg #[.string c.gone,.string c.name,optPtr c.file],.pointer (some ⟨D,1,none⟩)] W fun e w'=>e = .returned (.tuple #[])∧∃ v',TabNew W w' D 1 C 273 v v' (apG T c):=by
 rcases hc with ⟨f,hf,hn⟩ | ⟨hf,hn,hg⟩
 ·by_cases hg:c.gone=Rd.e0
  ·have e:apG T c=Sd.tset T c.name f:=by unfold apG;rw[hf,hg];rfl
   rw[e,hf,hg]
   exact makeIn_set D C _ v T c.name f W h hne (ne_nil hn)
  ·have e:apG T c=Sd.tset (Sd.trem T c.gone) c.name f:=by
    unfold apG;rw[hf]
    show (if c.gone.size=0 then _ else _)=_
    rw[if_neg (ne_size hg)]
   rw[e,hf]
   exact makeIn_both D C _ v T c.gone c.name f W h hne (ne_nil hg) (ne_nil hn)
 ·have e:apG T c=Sd.trem T c.gone:=by unfold apG;rw[hf]
  rw[e,hf,hn]
  exact makeIn_rem D C _ v T c.gone W h hne (ne_nil hg)
theorem apG_sorted {T:Tb} (h:Sd.tsorted T) (c:Ch):Sd.tsorted (apG T c):=by
 unfold apG
 split
 ·split
  ·exact Sd.tset_sorted h _ _
  ·exact Sd.tset_sorted (Sd.trem_sorted h _) _ _
 ·exact Sd.trem_sorted h _
theorem apG_len (T:Tb) (c:Ch):(apG T c).length≤T.length+1:=by
 unfold apG
 split
 ·split
  ·exact Sd.tset_len _ _ _
  ·have:=Sd.tset_len (Sd.trem T c.gone) c.name ‹Nat›
   have:=Sd.trem_len T c.gone
   omega
 ·have:=Sd.trem_len T c.gone
  omega
theorem apG_mem {T:Tb} {c:Ch} {p:ByteArray × Nat} (h:p ∈ apG T c):p ∈ T∨c.file=some p.2:=by
 unfold apG at h
 split at h
 ·rename_i f hf
  split at h
  ·rcases Sd.tset_mem h with e | e
   ·right;rw[hf,e]
   ·exact Or.inl e
  ·rcases Sd.tset_mem h with e | e
   ·right;rw[hf,e]
   ·exact Or.inl (Sd.trem_mem e)
 ·exact Or.inl (Sd.trem_mem h)
theorem DAt.tabN {w:World} {D:Nat} {d:Dv} (h:DAt w D d) (hl:d.names.length≤100000):TabIn w D 1 d.cells 273 d.vn d.names:=⟨h.blk,rfl,h.rn,h.sn,hl⟩
theorem disk_done {w w1 W:World} {D:Nat} {d:Dv} {vn' vc':Value} {T':Tb} {chs':List Ch} (hd:DAt w D d) (hn:TabNew w w1 D 1 d.cells 273 d.vn vn' T') (hT:Sd.tsorted T')
  (hk:Kept w1 W (fun k=>k≠D∧d.vc.ownBlock≠some k)) (hblk:W.heap[D]? = some (.cells ({ d with vn:=vn',vc:=vc' }:Dv).cells 273 (0,0)))
  (hrc:W.ownsRow 0 391 3 vc' chs'.length (chCells chs')) (hvc:∀ k,vc'.ownBlock=some k→d.vc.ownBlock=some k∨w.heap.size≤k)
  (hiN:∀ p,p ∈ T'→p.2 ∈ d.fs) (hiC:∀ c,c ∈ chs'→∀ f,c.file=some f→f ∈ d.fs) :
  DTo w W D d { d with names:=T',chs:=chs',vn:=vn',vc:=vc' }:=by
 have hK:Kept w W (fun k=>k≠D∧d.vn.ownBlock≠some k∧d.vc.ownBlock≠some k):=(hn.kept.mono (fun k _ h=>⟨h.1,h.2.1⟩)).trans (hk.mono (fun k _ h=>⟨h.1,h.2.2⟩))
 refine⟨⟨hblk,?_,?_,hrc,hT,hd.ss,?_,fun f hf=>?_,hd.fap,hiN,hd.inS,hiC⟩,hK.mono (fun k _ h=>⟨fun e=>h (Or.inl e),fun e=>h (Or.inr (Or.inl e)),fun e=>h (Or.inr (Or.inr (Or.inr (Or.inl e))))⟩),fun k hk=>?_⟩
 ·refine own_kept hn.row hk (fun g hg=>⟨?_,fun e=>?_⟩)
  ·obtain⟨c,hc,_⟩:=own_blk hn.row hg
   exact blk_ne hc hn.blk (by decide)
  ·have hg2:=own_lt hd.rc e
   obtain⟨c',hc',_⟩:=own_blk hd.rc e
   obtain⟨c,hc,_⟩:=own_blk hn.row hg
   have h3:=hn.kept.block g hg2 ⟨blk_ne hc' hd.blk (by decide),fun e2=>by obtain⟨c2,hc2,_⟩:=own_blk hd.rn e2;exact blk_ne hc2 hc' (by decide) rfl⟩
   rw[h3] at hc
   exact blk_ne hc hc' (by decide) rfl
 ·refine own_kept hd.rs hK (fun g hg=>?_)
  obtain⟨c,hc,_⟩:=own_blk hd.rs hg
  exact⟨blk_ne hc hd.blk (by decide),fun e=>hd.apart g e hg,fun e=>by obtain⟨c',hc',_⟩:=own_blk hd.rc e;exact blk_ne hc' hc (by decide) rfl⟩
 ·intro g hg e
  rcases hn.new with h | ⟨g',h,hg'⟩
  ·have hg:d.vn.ownBlock=some g:=h ▸ hg
   exact hd.apart g hg e
  ·have hg:some g'=some g:=h ▸ hg
   have:g'=g:=Option.some.inj hg
   have:=own_lt hd.rs e
   omega
 ·refine(hd.files f hf).kept hK ⟨blk_ne (hd.files f hf).blk hd.blk (by decide),fun e=>?_,fun e=>?_⟩ (fun g hg=>?_)
  ·obtain⟨c,hc,_⟩:=own_blk hd.rn e;exact blk_ne hc (hd.files f hf).blk (by decide) rfl
  ·obtain⟨c,hc,_⟩:=own_blk hd.rc e;exact blk_ne hc (hd.files f hf).blk (by decide) rfl
  ·obtain⟨c,hc⟩:=(hd.files f hf).own hg
   refine⟨blk_ne hc hd.blk (by decide),fun e=>?_,fun e=>?_⟩
   ·obtain⟨c',hc',_⟩:=own_blk hd.rn e;exact blk_ne hc' hc (by decide) rfl
   ·obtain⟨c',hc',_⟩:=own_blk hd.rc e;exact blk_ne hc' hc (by decide) rfl
 ·rcases hk with e | e | e | e | e
  ·exact Or.inl (Or.inl e)
  ·rcases hn.new with h | ⟨g',h,hg'⟩
   ·exact Or.inl (Or.inr (Or.inl (h ▸ e)))
   ·have e:some g'=some k:=h ▸ e
    have:=Option.some.inj e
    exact Or.inr (by omega)
  ·exact Or.inl (Or.inr (Or.inr (Or.inl e)))
  ·rcases hvc k e with e | e
   ·exact Or.inl (Or.inr (Or.inr (Or.inr (Or.inl e))))
   ·exact Or.inr e
  ·exact Or.inl (Or.inr (Or.inr (Or.inr (Or.inr e))))
theorem DTo.refl {w:World} {D:Nat} {d:Dv} (h:DAt w D d):DTo w w D d d:=DTo.below h (Below.refl _ _)
def ChPost (D:Nat) (d:Dv) (c:Ch) (w:World) (e:Ending) (w':World):Prop:=e = .returned (.tuple #[])∧∃ vn' vc',DTo w w' D d { d with names:=apG d.names c,chs:=d.chs++[c],vn:=vn',vc:=vc' }
theorem change_any (D:Nat) (d:Dv) (c:Ch) (w:World) (h:DAt w D d) (hl:d.chs.length≤10000000) (hl2:d.names.length≤100000) (hc:okCh c) (hcf:∀ f,c.file=some f→f ∈ d.fs) :
  Calls Tryz.prog 286 #[.pointer (some ⟨D,0,none⟩),.agg #[.string c.gone,.string c.name,optPtr c.file]] w (ChPost D d c w):=by
 obtain⟨i0,hi,hz0,hz1,hz2⟩:=info_parts Tryz.info_change
 have HD:=hde h
 have hmk:∀ W,Below w.heap.size w W→Calls Tryz.prog 263 #[.agg #[.string c.gone,.string c.name,optPtr c.file],.pointer (some ⟨D,1,none⟩)] W fun e w'=>e = .returned (.tuple #[])∧∃ v',TabNew W w' D 1 d.cells 273 d.vn v' (apG d.names c):=fun W hW=>okCh_makes D c hc W _ _ _ ((h.below hW).tabN hl2) ((h.below hW).rowD (h.below hW).rn (by decide))
 have hT:=apG_sorted h.sn c
 have hiN:∀ p,p ∈ apG d.names c→p.2 ∈ d.fs:=fun p hp=>by
  rcases apG_mem hp with e | e
  ·exact h.inN p e
  ·exact hcf _ e
 have hiC:∀ x,x ∈ d.chs++[c]→∀ f,x.file=some f→f ∈ d.fs:=fun x hx f hf=>by
  rcases List.mem_append.1 hx with e | e
  ·exact h.inC x e f hf
  ·rw[List.mem_singleton.1 e] at hf;exact hcf f hf
 have HIN:=hde hiN
 have HIC:=hde hiC
 have HT:=hde hT
 clear h hiN hiC hT hc hcf
 obtain⟨p,ho⟩:∃ p,optPtr c.file = .pointer p:=by cases c.file <;> exact⟨_,rfl⟩
 have HO:=hde ho
 rw[ho] at hmk ⊢
 clear ho
 have hb0:∀ o,Below w.heap.size w (w.alloc o).drew:=fun o=>((Below.refl _ w).alloc nlr o).drew
 go_enter Tryz.func286,Tryz.ntmps286
 go_wp2_with fail
 go_region_with (go_at_call 263;refine(hmk _ (hb0 _)).mono ?_;rintro e w1 ⟨rfl,vn',hn0⟩)
 have hd:=uh HD
 have hn:=TabNew.from_alloc (TabNew.from_drew hn0)
 have hDw:D < w.heap.size:=blk_lt hd.blk
 have hkw:Kept (w.alloc (.cells #[.string c.gone,.string c.name,.pointer p] 391)).drew w1 (fun k=>k≠D∧d.vn.ownBlock≠some k):=hn0.kept
 have hbx:w1.heap[w.heap.size]? = some (.cells #[.string c.gone,.string c.name,.pointer p] 391 (0,0)):=
  (hkw.block w.heap.size (by simp) ⟨by omega,fun e=>by obtain⟨cur,hc,_⟩:=own_blk hd.rn e;have:=blk_lt hc;omega⟩).trans (heap_alloc_new w _)
 have b0:w1.cell? ⟨w.heap.size,0,none⟩=some (.string c.gone):=by rw[cell_of_row w1 _ 0 _ _ _ hbx];rfl
 have b1:w1.cell? ⟨w.heap.size,1,none⟩=some (.string c.name):=by rw[cell_of_row w1 _ 1 _ _ _ hbx];rfl
 have b2:w1.cell? ⟨w.heap.size,2,none⟩=some (.pointer p):=by rw[cell_of_row w1 _ 2 _ _ _ hbx];rfl
 have hblk:w1.heap[D]? = some (.cells ({ d with vn:=vn' }:Dv).cells 273 (0,0)):=hn.blk
 have d3:w1.cell? ⟨D,3,none⟩=some d.vc:=by rw[cell_of_row w1 _ 3 _ _ _ hblk];rfl
 have f3:w1.frozen? ⟨D,3,none⟩=false:=by simp[World.frozen?,hblk]
 have hrc1:w1.ownsRow 0 391 3 d.vc d.chs.length (chCells d.chs):=own_kept hd.rc hn.kept (fun g hg=>by
  obtain⟨cur,hc,_⟩:=own_blk hd.rc hg
  refine⟨blk_ne hc hd.blk (by decide),fun e=>?_⟩
  obtain⟨cur',hc',_⟩:=own_blk hd.rn e
  exact blk_ne hc hc' (by decide) rfl)
 obtain⟨pc,cc,hvc⟩:=own_sl hrc1
 have HVC:=hde hvc
 rw[hvc] at d3 hrc1
 have hDw1:D < w1.heap.size:=blk_lt hblk
 have HBLK:=hde hblk
 have HRC:=hde hrc1
 have HN:=hde hn
 have hneD:some D≠(Value.slice pc d.chs.length cc).ownBlock:=fun e=>by
  obtain⟨c',hc',_⟩:=own_blk hrc1 e.symm
  exact blk_ne hc' hblk (by decide) rfl
 have HBA:=hde (fun (o:Obj)=>(show ((w1.alloc o).drew).heap[D]? = _ from (Below.heap_alloc w1 o D hDw1).trans hblk))
 clear hblk hrc1 hn hn0 hd hkw hbx hDw hvc
 go_wp2_with fail
 go_region_law ((refine step_append_lies _ (by rfl) _ _ _ (by rfl) 0 391 i0 _ 3 40 Tryz.underlying268 hi hz0 hz1 hz2 rfl (by omega) (.slice pc d.chs.length cc) _ _ (by rfl) (((uh HRC).alloc _).drew) ⟨w1.heap.size,0,none⟩ 1 1 [.string c.gone,.string c.name,.pointer p] (by rfl) (by rfl) (World.news_of_block (cs := #[.string c.gone,.string c.name,.pointer p]) (t:=391) (fr:=(0,0)) (heap_alloc_new w1 _)) (by simp[Value.oneCell']) (by omega) (by unfold maxLen;omega) (by omega) (Nat.zero_le _) (w1.heap.size+1) (by simp) ?_;intro gg cp w2 hown1 hgrow hat hlt1;have hq0:w2.cell? ⟨D,3,none⟩=some (.slice pc d.chs.length cc):=(hgrow.cell_far ⟨D,3,none⟩ (by simp;omega) hneD).trans (by rw[cell_of_row _ D 3 _ _ _ ((uh HBA) _),← uh HVC];rfl);have hq1:w2.frozen? ⟨D,3,none⟩=false:=(hgrow.frozen_far ⟨D,3,none⟩ (by simp;omega) hneD).trans (by have hh:=(uh HBA) (.cells #[.string c.gone,.string c.name,.pointer p] 391);simp only[World.frozen?,hh];rfl)))
 all_goals
  have hd:=uh HD
  have hn:=uh HN
  have hDl:D < w2.heap.size:=by have:=hgrow.size;simp at this;omega
  have hDb:w2.heap[D]? = some (.cells ({ d with vn:=vn' }:Dv).cells 273 (0,0)):=(hgrow.block D (by simp;omega) hneD).trans ((uh HBA) _)
  have hK:Kept w1 (w2.setCell ⟨D,3,none⟩ (.slice (some ⟨gg,0,none⟩) (d.chs.length+1) cp)) (fun k=>k≠D∧d.vc.ownBlock≠some k):=by
   rw[uh HVC]
   exact((((Kept.refl w1 _).alloc _).drew).trans (Kept.grown hgrow (fun k hk=>hk.2))).setCell (fun hk=>hk.1 rfl) _
  have hbl:(w2.setCell ⟨D,3,none⟩ (.slice (some ⟨gg,0,none⟩) (d.chs.length+1) cp)).heap[D]? = some (.cells ({ d with vn:=vn',vc := .slice (some ⟨gg,0,none⟩) (d.chs.length+1) cp }:Dv).cells 273 (0,0)):=by
   rw[heap_setCell_same w2 D 3 _ _ _ hDb];rfl
  have hcs:chCells (d.chs++[c])=chCells d.chs++[.string c.gone,.string c.name,.pointer p]:=by
   rw[← uh HO];simp[chCells]
  have hrc:(w2.setCell ⟨D,3,none⟩ (.slice (some ⟨gg,0,none⟩) (d.chs.length+1) cp)).ownsRow 0 391 3 (.slice (some ⟨gg,0,none⟩) (d.chs.length+1) cp) (d.chs++[c]).length (chCells (d.chs++[c])):=by
   rw[hcs,List.length_append]
   refine ownsRow_setCell_other hown1 (fun e=>?_) _
   obtain⟨c',hc',_⟩:=own_blk hown1 e
   exact blk_ne hc' hDb (by decide) rfl
  have r:=disk_done hd hn (uh HT) hK hbl hrc (fun k hk=>by
   have e:gg=k:=by simpa [Value.ownBlock] using hk
   subst e
   rcases hat with e | e
   ·left;rw[uh HVC];exact e
   ·right
    have:=hn.kept.size
    omega) (uh HIN) (uh HIC)
  exact bodyPost_end (results_none rfl _ _ _) rfl ⟨rfl,_,_,r⟩
end Go.Proofs.YteflnddphpjahaaGreatDoor.Pk
