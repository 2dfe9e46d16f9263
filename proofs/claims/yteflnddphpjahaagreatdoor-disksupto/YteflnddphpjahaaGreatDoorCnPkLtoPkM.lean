import Derived.Test.YteflnddphpjahaaGreatDoorCnPkK
import Derived.Test.YteflnddphpjahaaGreatDoorCnRdK
set_option linter.unusedVariables false
set_option linter.unusedSimpArgs false
set_option maxRecDepth 100000
set_option maxHeartbeats 16000000
namespace Go.Proofs.YteflnddphpjahaaGreatDoor.Pk
open Go.RowKit
open Sd (Tb)
open Rd (Rk tab e0)
def bm (blk:Nat→Nat) (p:ByteArray × Nat):ByteArray × Nat:=(p.1,blk p.2)
def cm (blk:Nat→Nat) (c:Rd.Ch):Ch:=⟨c.goes,c.comes,if c.comes=e0 then none else some (blk c.file)⟩
theorem tlow_bm (blk:Nat→Nat) (T:Tb) (a:ByteArray):Sd.tlow (T.map (bm blk)) a=Sd.tlow T a:=by
 unfold Sd.tlow
 rw[List.filter_map,List.length_map]
 rfl
theorem thas_bm (blk:Nat→Nat) (T:Tb) (a:ByteArray):Sd.thas (T.map (bm blk)) a=Sd.thas T a:=by
 unfold Sd.thas
 rw[List.any_map]
 rfl
theorem tget_bm (blk:Nat→Nat) (T:Tb) (a:ByteArray):Sd.tget (T.map (bm blk)) a=(Sd.tget T a).map blk:=by
 unfold Sd.tget
 rw[thas_bm,tlow_bm]
 split
 ·rw[List.getElem?_map,Option.map_map,Option.map_map];rfl
 ·rfl
theorem tset_bm (blk:Nat→Nat) (T:Tb) (a:ByteArray) (i:Nat):Sd.tset (T.map (bm blk)) a (blk i)=(Sd.tset T a i).map (bm blk):=by
 unfold Sd.tset Sd.tins
 rw[thas_bm,tlow_bm]
 split
 ·rw[List.map_set];rfl
 ·rw[List.map_append,List.map_cons,List.map_take,List.map_drop];rfl
theorem erase_map {α β : Type} (f : α→β):∀ (L:List α) (k:Nat),(L.map f).eraseIdx k=(L.eraseIdx k).map f
 | [],_=>rfl
 | a :: L,0=>rfl
 | a :: L,k+1=>by simp[erase_map f L k]
theorem trem_bm (blk:Nat→Nat) (T:Tb) (a:ByteArray):Sd.trem (T.map (bm blk)) a=(Sd.trem T a).map (bm blk):=by
 unfold Sd.trem
 rw[thas_bm,tlow_bm]
 split
 ·exact erase_map (bm blk) T _
 ·rfl
theorem trem_e0 {T:Tb} (h:Sd.thas T e0=false):Sd.trem T e0=T:=by unfold Sd.trem;rw[if_neg (by rw[h];decide)]
theorem e0_size {a:ByteArray}:a.size=0↔a=e0:=⟨fun h=>ByteArray.ext (Array.eq_empty_of_size_eq_zero h),fun h=>by rw[h];rfl⟩
theorem apG_bm (blk:Nat→Nat) {T:Tb} (hT:Sd.thas T e0=false) (c:Rd.Ch):apG (T.map (bm blk)) (cm blk c)=(Rd.apT T c).map (bm blk):=by
 unfold apG Rd.apT cm
 by_cases hc:c.comes=e0
 ·simp only[if_pos hc]
  exact trem_bm blk T c.goes
 ·simp only[if_neg hc]
  by_cases hg:c.goes=e0
  ·rw[if_pos (e0_size.2 hg),hg,trem_e0 hT]
   exact tset_bm blk T c.comes c.file
  ·rw[if_neg (fun h=>hg (e0_size.1 h)),trem_bm]
   exact tset_bm blk _ c.comes c.file
theorem bm_congr {blk blk':Nat→Nat} {T:Tb} {n:Nat} (hT:∀ p ∈ T,p.2 < n) (h:∀ i,i < n→blk' i=blk i):T.map (bm blk')=T.map (bm blk):=List.map_congr_left fun p hp=>by unfold bm;rw[h _ (hT p hp)]
structure Is (d:Dv) (R:Rk) (blk:Nat→Nat):Prop where
 q:d.q=R.limit
 names:d.names=(tab R.now).map (bm blk)
 safe:d.safe=(tab R.safe).map (bm blk)
 chs:d.chs=R.chs.map (cm blk)
 fs:d.fs=(List.range R.files.length).map blk
 inj:∀ i j,i < R.files.length→j < R.files.length→blk i=blk j→i=j
 F:∀ i,i < R.files.length→d.F (blk i)=⟨(R.fl i).bytes,(R.fl i).safe⟩
 Fs:∀ f,(d.F f).safe≤(d.F f).bytes.size
 down:d.down=R.down
 arm:R.down=true∨(d.armed=false∧R.left = -1)∨(d.armed=true∧d.left=R.left∧0≤R.left)
 left : -1≤R.left∧R.left≤9223372036854775807
 ok:R.Ok
 okc:∀ c ∈ R.chs,¬ c.comes=e0∨¬ c.goes=e0
theorem Is.up {d:Dv} {R:Rk} {blk:Nat→Nat} (h:Is d R blk):d.up=R.up:=by
 unfold Dv.up Rk.up
 rw[h.down]
 rcases h.arm with e | ⟨e1,e2⟩ | ⟨e1,e2,e3⟩
 ·rw[e];rfl
 ·rw[e1,e2];cases R.down <;> simp
 ·rw[e1,e2];cases R.down <;> simp
theorem Is.same {d d':Dv} {R R':Rk} {blk:Nat→Nat} (h:Is d R blk) (e1:d'.q=R'.limit) (e2:d'.names=d.names) (e3:d'.safe=d.safe) (e4:d'.chs=d.chs) (e5:d'.fs=d.fs) (e6:d'.F=d.F) (f1:R'.files=R.files) (f2:R'.safe=R.safe) (f3:R'.chs=R.chs)
  (hd:d'.down=R'.down) (ha:R'.down=true∨(d'.armed=false∧R'.left = -1)∨(d'.armed=true∧d'.left=R'.left∧0≤R'.left)) (hl : -1≤R'.left∧R'.left≤9223372036854775807):Is d' R' blk:=by
 obtain⟨fi,sa,ch,li,le,dn⟩:=R'
 simp only at f1 f2 f3
 subst f1 f2 f3
 have hok:Rk.Ok ⟨R.files,R.safe,R.chs,li,le,dn⟩:=⟨h.ok.key,h.ok.some,h.ok.sf,h.ok.cf,h.ok.cut⟩
 exact⟨e1,e2.trans h.names,e3.trans h.safe,e4.trans h.chs,e5.trans h.fs,h.inj,fun i hi=>by rw[e6];exact h.F i hi,fun f=>by rw[e6];exact h.Fs f,hd,ha,hl,hok,h.okc⟩
theorem Is.cnt {d:Dv} {R:Rk} {blk:Nat→Nat} (h:Is d R blk):Is d.cnt R.cnt blk:=by
 obtain⟨n1,n2,n3,n4,n5,n6⟩:=cnt_same d
 obtain⟨f1,f2,f3,f4⟩:=Rd.cnt_files R
 have hl:=h.left
 have ha:=h.arm
 have hdn:=h.down
 refine h.same (by rw[n6,f4];exact h.q) n1 n2 n3 n4 n5 f1 f2 f3 ?_ ?_ ?_
 ·unfold Dv.cnt Rk.cnt
  rw[hdn]
  cases hd:R.down with
  | true =>
   split
   ·simp[hd]
   ·simp[hdn,hd]
  | false =>
   rcases ha with e | ⟨e1,e2⟩ | ⟨e1,e2,e3⟩
   ·rw[hd] at e;cases e
   ·rw[e1,e2];simp[hdn,hd]
   ·rw[e1,e2]
    by_cases h0:R.left=0
    ·simp[h0]
    ·have:0 < R.left:=by omega
     simp[h0,this,hd]
 ·unfold Dv.cnt Rk.cnt
  cases hd:R.down with
  | true=>left;simp[hd]
  | false =>
   rcases ha with e | ⟨e1,e2⟩ | ⟨e1,e2,e3⟩
   ·rw[hd] at e;cases e
   ·right;left;rw[e1,e2];simp[e1,e2]
   ·by_cases h0:R.left=0
    ·left;simp[h0]
    ·right;right
     have hp:0 < R.left:=by omega
     rw[e1]
     simp only[if_true,h0,hp,if_false,Bool.false_eq_true]
     refine⟨by first | trivial | exact e1,?_,by omega⟩
     rw[e2];unfold wrap64;omega
 ·unfold Rk.cnt
  split
  ·exact hl
  ·split
   ·exact hl
   ·split
    ·simp only;omega
    ·exact hl
theorem Is.has0 {d:Dv} {R:Rk} {blk:Nat→Nat} (h:Is d R blk):Sd.thas (tab R.now) e0=false:=by
 cases hh:Sd.thas (tab R.now) e0 with
 | false=>rfl
 | true =>
  obtain⟨v,hv⟩:=Sd.thas_mem.1 hh
  exact absurd rfl (h.ok.dir_some _ (e0,v) ((Rd.tab_mem (h.ok.dir_keyed _)).1 hv))
theorem Is.get {d:Dv} {R:Rk} {blk:Nat→Nat} (h:Is d R blk) (a:ByteArray):Sd.tget d.names a=(Rd.rget R.now a).map blk:=by rw[h.names,tget_bm,Rd.tget_tab]
theorem Is.has {d:Dv} {R:Rk} {blk:Nat→Nat} (h:Is d R blk) (a:ByteArray):Sd.thas d.names a=(Rd.rget R.now a).isSome:=by
 rw[h.names,thas_bm,← Rd.tget_tab]
 cases hh:Sd.thas (tab R.now) a with
 | false=>rw[Sd.tget_none hh];rfl
 | true=>obtain⟨_,_,e⟩:=Sd.tget_at (Rd.tab_sorted R.now) hh;rw[e];rfl
theorem Is.lt {d:Dv} {R:Rk} {blk:Nat→Nat} (h:Is d R blk) {a:ByteArray} {i:Nat} (hg:Rd.rget R.now a=some i):i < R.files.length:=h.ok.dir_file _ (a,i) ((Rd.rget_mem (h.ok.dir_keyed _)).1 hg)
theorem Is.onE {d:Dv} {R:Rk} {blk:Nat→Nat} (h:Is d R blk) (a:ByteArray):d.onE a=if R.up=false then 9 else match Rd.rget R.now a with
  | none=>11
  | some _=>0:=by
 unfold Dv.onE
 rw[h.up,h.has]
 cases R.up with
 | false=>rfl
 | true=>cases Rd.rget R.now a <;> rfl
theorem Is.chg {d:Dv} {R:Rk} {blk:Nat→Nat} (h:Is d R blk) (c:Rd.Ch) (hf:c.file < R.files.length∨c.comes=e0) (hc:¬ c.comes=e0∨¬ c.goes=e0) (vn' vc':Value):Is (d.chg (cm blk c) vn' vc') { R with chs:=R.chs++[c] } blk:=by
 refine⟨h.q,?_,h.safe,?_,h.fs,h.inj,h.F,h.Fs,h.down,h.arm,h.left,Rd.chs_ok h.ok c hf,fun x hx=>?_⟩
 ·show apG d.names (cm blk c)=_
  rw[Rd.Rk.now_snoc,Rd.tab_ap (L:=R.now) (Rd.rget_none.2 (h.ok.dir_some _)),h.names,apG_bm blk h.has0]
 ·show d.chs++[cm blk c]=(R.chs++[c]).map (cm blk)
  rw[h.chs,List.map_append];rfl
 ·rcases List.mem_append.1 hx with e | e
  ·exact h.okc x e
  ·rw[List.mem_singleton.1 e];exact hc
theorem Is.addF {d:Dv} {R:Rk} {blk:Nat→Nat} (h:Is d R blk) {f:Nat} (hf:∀ k,k ∈ d.fs→k≠f):Is (d.addF f) { R with files:=R.files++[⟨e0,0⟩] } (upd blk R.files.length f):=by
 have hb:∀ i,i < R.files.length→upd blk R.files.length f i=blk i:=fun i hi=>upd_other _ _ (by omega)
 have hn:∀ p ∈ tab R.now,p.2 < R.files.length:=fun p hp=>h.ok.dir_file _ p ((Rd.tab_mem (h.ok.dir_keyed _)).1 hp)
 have hs:∀ p ∈ tab R.safe,p.2 < R.files.length:=fun p hp=>h.ok.sf p ((Rd.tab_mem h.ok.key).1 hp)
 have hin:∀ i,i < R.files.length→blk i≠f:=fun i hi=>hf _ (by rw[h.fs];exact List.mem_map.2 ⟨i,List.mem_range.2 hi,rfl⟩)
 have hl:(R.files++[Rd.Fl.mk e0 0]).length=R.files.length+1:=by simp
 refine⟨h.q,?_,?_,?_,?_,fun i j hi hj e=>?_,fun i hi=>?_,fun k=>?_,h.down,h.arm,h.left,Rd.files_ok h.ok,h.okc⟩
 ·exact h.names.trans (bm_congr hn hb).symm
 ·exact h.safe.trans (bm_congr hs hb).symm
 ·refine h.chs.trans (List.map_congr_left fun c hc=>?_)
  unfold cm
  by_cases e:c.comes=e0
  ·rw[if_pos e,if_pos e]
  ·rw[if_neg e,if_neg e]
   rcases h.ok.cf c hc with h1 | h1
   ·rw[hb _ h1]
   ·exact absurd h1 e
 ·show d.fs++[f]=(List.range (R.files++[Rd.Fl.mk e0 0]).length).map (upd blk R.files.length f)
  rw[hl,List.range_succ,List.map_append,h.fs]
  congr 1
  ·exact List.map_congr_left fun i hi=>(hb i (List.mem_range.1 hi)).symm
  ·simp[upd_same]
 ·have hi:i < (R.files++[Rd.Fl.mk e0 0]).length:=hi
  have hj:j < (R.files++[Rd.Fl.mk e0 0]).length:=hj
  rw[hl] at hi hj
  by_cases e1:i=R.files.length
  ·by_cases e2:j=R.files.length
   ·omega
   ·rw[e1,upd_same,hb j (by omega)] at e
    exact absurd e.symm (hin j (by omega))
  ·by_cases e2:j=R.files.length
   ·rw[e2,upd_same,hb i (by omega)] at e
    exact absurd e (hin i (by omega))
   ·rw[hb i (by omega),hb j (by omega)] at e
    exact h.inj i j (by omega) (by omega) e
 ·have hi:i < (R.files++[Rd.Fl.mk e0 0]).length:=hi
  rw[hl] at hi
  show upd d.F f ⟨⟨#[]⟩,0⟩ (upd blk R.files.length f i)=_
  by_cases e1:i=R.files.length
  ·rw[e1,upd_same,upd_same]
   unfold Rk.fl
   rw[List.getD_eq_getElem?_getD,List.getElem?_append_right nlr]
   simp;rfl
  ·rw[hb i (by omega),upd_other _ _ (hin i (by omega)),h.F i (by omega),Rd.fold_file R _ i (by omega)]
 ·show (upd d.F f ⟨⟨#[]⟩,0⟩ k).safe≤(upd d.F f ⟨⟨#[]⟩,0⟩ k).bytes.size
  by_cases e:k=f
  ·rw[e,upd_same];exact Nat.zero_le _
  ·rw[upd_other _ _ e];exact h.Fs k
theorem Is.setF {d:Dv} {R:Rk} {blk:Nat→Nat} (h:Is d R blk) {i:Nat} (hi:i < R.files.length) (b:ByteArray) (n:Nat) (hbn:n≤b.size) (v':Value):Is (d.setF (blk i) ⟨b,n⟩ v') (R.setF i ⟨b,n⟩) blk:=by
 have hl:(R.files.set i ⟨b,n⟩).length=R.files.length:=List.length_set
 refine⟨h.q,h.names,h.safe,h.chs,?_,fun j k hj hk e=>?_,fun j hj=>?_,fun k=>?_,h.down,h.arm,h.left,Rd.setF_ok h.ok i ⟨b,n⟩ hbn,h.okc⟩
 ·show d.fs=(List.range (R.files.set i ⟨b,n⟩).length).map blk
  rw[hl];exact h.fs
 ·have hj:j < (R.files.set i ⟨b,n⟩).length:=hj
  have hk:k < (R.files.set i ⟨b,n⟩).length:=hk
  rw[hl] at hj hk
  exact h.inj j k hj hk e
 ·have hj:j < (R.files.set i ⟨b,n⟩).length:=hj
  rw[hl] at hj
  show upd d.F (blk i) ⟨b,n⟩ (blk j)=_
  by_cases e:j=i
  ·rw[e,upd_same]
   show _=Fl.mk ((R.files.set i ⟨b,n⟩).getD i ⟨e0,0⟩).bytes ((R.files.set i ⟨b,n⟩).getD i ⟨e0,0⟩).safe
   rw[List.getD_eq_getElem?_getD,List.getElem?_set_self hi];rfl
  ·rw[upd_other _ _ (fun e2=>e (h.inj j i hj hi e2)),h.F j hj]
   show _=Fl.mk ((R.files.set i ⟨b,n⟩).getD j ⟨e0,0⟩).bytes ((R.files.set i ⟨b,n⟩).getD j ⟨e0,0⟩).safe
   rw[List.getD_eq_getElem?_getD,List.getElem?_set_ne (fun e2=>e e2.symm)]
   unfold Rk.fl
   rw[List.getD_eq_getElem?_getD]
 ·show (upd d.F (blk i) ⟨b,n⟩ k).safe≤(upd d.F (blk i) ⟨b,n⟩ k).bytes.size
  by_cases e:k=blk i
  ·rw[e,upd_same];exact hbn
  ·rw[upd_other _ _ e];exact h.Fs k
theorem Is.sy {d:Dv} {R:Rk} {blk:Nat→Nat} (h:Is d R blk) (vs':Value):Is (d.sy vs') { R with safe:=R.now,chs:=[] } blk:=by
 have hok:({ R with safe:=R.now,chs:=[] }:Rk).Ok:=⟨h.ok.dir_keyed _,h.ok.dir_some _,h.ok.dir_file _,fun c hc=>(by cases hc),h.ok.cut⟩
 have hn:({ R with safe:=R.now,chs:=[] }:Rk).now=R.now:=by
  unfold Rk.now Rk.dir
  exact Rd.wo_self (h.ok.dir_some _)
 refine⟨h.q,?_,h.names,rfl,h.fs,h.inj,h.F,h.Fs,h.down,h.arm,h.left,hok,fun c hc=>(by cases hc)⟩
 rw[hn];exact h.names
open Rd (Rk tab e0 RAt rOwn RTo)
open Dk (Kept own_kept)
theorem RAt.kept {w w':World} {E:Nat} {R:Rk} {vf vs vc:Value} {ok:Nat→Prop} (h:RAt w E R vf vs vc) (hk:Kept w w' ok) (ho:∀ k,rOwn E vf vs vc k→ok k):RAt w' E R vf vs vc :=
 ⟨(hk.block E (blk_lt h.blk) (ho E (Or.inl rfl))).trans h.blk,own_kept h.rf hk (fun g hg=>ho g (Or.inr (Or.inl hg))),own_kept h.rs hk (fun g hg=>ho g (Or.inr (Or.inr (Or.inl hg)))),own_kept h.rc hk (fun g hg=>ho g (Or.inr (Or.inr (Or.inr hg)))),h.ok⟩
theorem DAt.kept {w w':World} {D:Nat} {d:Dv} {ok:Nat→Prop} (h:DAt w D d) (hk:Kept w w' ok) (ho:∀ k,dOwn D d k→ok k):DAt w' D d :=
 ⟨(hk.block D (blk_lt h.blk) (ho D (Or.inl rfl))).trans h.blk,own_kept h.rn hk (fun g hg=>ho g (Or.inr (Or.inl hg))),own_kept h.rs hk (fun g hg=>ho g (Or.inr (Or.inr (Or.inl hg)))),own_kept h.rc hk (fun g hg=>ho g (Or.inr (Or.inr (Or.inr (Or.inl hg))))),h.sn,h.ss,h.apart,fun f hf=>(h.files f hf).kept hk (ho f (Or.inr (Or.inr (Or.inr (Or.inr ⟨f,hf,Or.inl rfl⟩))))) (fun g hg=>ho g (Or.inr (Or.inr (Or.inr (Or.inr ⟨f,hf,Or.inr hg⟩))))),h.fap,h.inN,h.inS,h.inC⟩
def Half (w0 w:World) (D E:Nat) (Q R:Rk) (O:Nat→Prop):Prop := ∃ d blk vf vs vc,DAt w D d∧Is d Q blk∧RAt w E R vf vs vc∧(∀ k,dOwn D d k→¬ rOwn E vf vs vc k)∧Kept w0 w (fun k=>¬ O k)∧∀ k,dOwn D d k∨rOwn E vf vs vc k→O k∨w0.heap.size≤k
def Pair (w:World) (D E:Nat) (R:Rk) (O:Nat→Prop):Prop := ∃ d blk vf vs vc,DAt w D d∧Is d R blk∧RAt w E R vf vs vc∧(∀ k,dOwn D d k→¬ rOwn E vf vs vc k)∧∀ k,O k↔dOwn D d k∨rOwn E vf vs vc k
theorem Pair.half {w:World} {D E:Nat} {R:Rk} {O:Nat→Prop} (h:Pair w D E R O):Half w w D E R R O:=by
 obtain⟨d,blk,vf,vs,vc,h1,h2,h3,h4,h5⟩:=h
 exact⟨d,blk,vf,vs,vc,h1,h2,h3,h4,Kept.refl _ _,fun k hk=>Or.inl ((h5 k).2 hk)⟩
theorem Half.pair {w0 w:World} {D E:Nat} {R:Rk} {O:Nat→Prop} (h:Half w0 w D E R R O):∃ O',Pair w D E R O'∧Kept w0 w (fun k=>¬ O k)∧∀ k,O' k→O k∨w0.heap.size≤k:=by
 obtain⟨d,blk,vf,vs,vc,h1,h2,h3,h4,h5,h6⟩:=h
 exact⟨fun k=>dOwn D d k∨rOwn E vf vs vc k,⟨d,blk,vf,vs,vc,h1,h2,h3,h4,fun k=>Iff.rfl⟩,h5,h6⟩
theorem Pair.lt {w:World} {D E:Nat} {R:Rk} {O:Nat→Prop} (h:Pair w D E R O) {k:Nat} (hk:O k):k < w.heap.size:=by
 obtain⟨d,blk,vf,vs,vc,h1,h2,h3,h4,h5⟩:=h
 rcases(h5 k).1 hk with e | e
 ·exact dOwn_lt h1 e
 ·exact Rd.rOwn_lt h3 e
theorem Pair.kept {w w':World} {D E:Nat} {R:Rk} {O ok:Nat→Prop} (h:Pair w D E R O) (hk:Kept w w' ok) (ho:∀ k,O k→ok k):Pair w' D E R O:=by
 obtain⟨d,blk,vf,vs,vc,h1,h2,h3,h4,h5⟩:=h
 exact⟨d,blk,vf,vs,vc,h1.kept hk (fun k hk=>ho k ((h5 k).2 (Or.inl hk))),h2,RAt.kept h3 hk (fun k hk=>ho k ((h5 k).2 (Or.inr hk))),h4,h5⟩
theorem keep_chain {w0 w w1:World} {O own:Nat→Prop} (h:Kept w0 w (fun k=>¬ O k)) (hk:Kept w w1 (fun k=>¬ own k)) (ho:∀ k,own k→O k∨w0.heap.size≤k):Kept w0 w1 (fun k=>¬ O k):=by
 have hs:=h.size
 refine⟨hk.os.trans h.os,hk.tape.trans h.tape,hk.output.trans h.output,Nat.le_trans hs hk.size,fun k hk1 hn=>?_⟩
 rw[hk.block k (by omega) (fun e=>by rcases ho k e with e | e;exact hn e;omega),h.block k hk1 hn]
theorem Half.dstep {w0 w w1:World} {D E:Nat} {Q Q' R:Rk} {O:Nat→Prop} {d d':Dv} {blk':Nat→Nat} {vf vs vc:Value} (h3:RAt w E R vf vs vc) (h4:∀ k,dOwn D d k→¬ rOwn E vf vs vc k) (h5:Kept w0 w (fun k=>¬ O k)) (h6:∀ k,dOwn D d k∨rOwn E vf vs vc k→O k∨w0.heap.size≤k) (ht:DTo w w1 D d d') (hi:Is d' Q' blk'):Half w0 w1 D E Q' R O:=by
 have hs:=h5.size
 refine⟨d',blk',vf,vs,vc,ht.at',hi,RAt.kept h3 ht.kept (fun k hk hd=>h4 k hd hk),fun k hk hr=>?_,keep_chain h5 ht.kept (fun k hk=>h6 k (Or.inl hk)),fun k hk=>?_⟩
 ·rcases ht.own k hk with e | e
  ·exact h4 k e hr
  ·have:=Rd.rOwn_lt h3 hr;omega
 ·rcases hk with hk | hk
  ·rcases ht.own k hk with e | e
   ·exact h6 k (Or.inl e)
   ·exact Or.inr (by omega)
  ·exact h6 k (Or.inr hk)
theorem Half.rstep {w0 w w1:World} {D E:Nat} {Q R R':Rk} {O:Nat→Prop} {d:Dv} {blk:Nat→Nat} {vf vs vc vf' vs' vc':Value} (h1:DAt w D d) (h2:Is d Q blk) (h4:∀ k,dOwn D d k→¬ rOwn E vf vs vc k) (h5:Kept w0 w (fun k=>¬ O k)) (h6:∀ k,dOwn D d k∨rOwn E vf vs vc k→O k∨w0.heap.size≤k) (ht:RTo w w1 E vf vs vc R' vf' vs' vc'):Half w0 w1 D E Q R' O:=by
 have hs:=h5.size
 refine⟨d,blk,vf',vs',vc',h1.kept ht.kept (fun k hk hd=>h4 k hk hd),h2,ht.at',fun k hk hr=>?_,keep_chain h5 ht.kept (fun k hk=>h6 k (Or.inr hk)),fun k hk=>?_⟩
 ·rcases ht.own k hr with e | e
  ·exact h4 k hk e
  ·have:=dOwn_lt h1 hk;omega
 ·rcases hk with hk | hk
  ·exact h6 k (Or.inl hk)
  ·rcases ht.own k hk with e | e
   ·exact h6 k (Or.inr e)
   ·exact Or.inr (by omega)
theorem Half.below {w0 w w1:World} {D E:Nat} {Q R:Rk} {O:Nat→Prop} (h:Half w0 w D E Q R O) (hb:Below w.heap.size w w1):Half w0 w1 D E Q R O:=by
 obtain⟨d,blk,vf,vs,vc,h1,h2,h3,h4,h5,h6⟩:=h
 exact⟨d,blk,vf,vs,vc,h1.below hb,h2,h3.below hb,h4,h5.trans ((Kept.below hb _).mono (fun _ _ h=>h)),h6⟩
structure Sm (R:Rk) (n b:Nat):Prop where
 dir:R.safe.length+R.chs.length≤n
 fn:R.files.length≤n
 file:∀ f ∈ R.files,f.bytes.size≤b
theorem Sm.fl {R:Rk} {n b:Nat} (h:Sm R n b) (i:Nat):(R.fl i).bytes.size≤b:=by
 unfold Rk.fl
 by_cases hi:i < R.files.length
 ·rw[List.getD_eq_getElem?_getD,List.getElem?_eq_getElem hi];exact h.file _ (List.getElem_mem _)
 ·rw[List.getD_eq_getElem?_getD,List.getElem?_eq_none (by omega)];exact Nat.zero_le _
theorem Sm.use {R:Rk} {n b:Nat} (h:Sm R n b) (L:Tb):R.use L≤L.length * b:=by
 unfold Rk.use
 induction L with
 | nil=>simp
 | cons p L ih =>
  have:=h.fl p.2
  simp only[List.map_cons,List.sum_cons,List.length_cons,Nat.succ_mul]
  omega
theorem Sm.fit {R:Rk} {n b:Nat} (h:Sm R n b) (hn:n≤100000) (hb:b≤1048576) (hl : -1≤R.left∧R.left≤9223372036854775807):R.Fit:=by
 have h1:=h.dir
 have h2:=h.fn
 refine⟨by omega,by omega,by omega,?_,fun i=>?_,by omega⟩
 ·have h3:=h.use R.now
  have h4:=Rd.dir_len R R.chs.length
  have h5:R.now.length * b≤100000 * 1048576:=Nat.mul_le_mul (by unfold Rk.now;omega) hb
  omega
 ·have:=h.fl i;omega
theorem Is.dlen {d:Dv} {R:Rk} {blk:Nat→Nat} (h:Is d R blk) {n b:Nat} (hs:Sm R n b):d.names.length≤n∧d.safe.length+d.chs.length≤n:=by
 have h1:=Rd.dir_len R R.chs.length
 have h2:=hs.dir
 rw[h.names,h.safe,h.chs]
 simp only[List.length_map]
 rw[Rd.tab_len (show Rd.keyed R.now from h.ok.dir_keyed _),Rd.tab_len h.ok.key]
 unfold Rk.now
 omega
theorem Is.uF {d:Dv} {R:Rk} {blk:Nat→Nat} (h:Is d R blk) {n b:Nat} (hs:Sm R n b):∀ p ∈ d.names,(d.F p.2).bytes.size≤b:=fun p hp=>by
 rw[h.names] at hp
 obtain⟨q,hq,rfl⟩:=List.mem_map.1 hp
 have hl:=h.ok.dir_file _ q ((Rd.tab_mem (h.ok.dir_keyed _)).1 hq)
 show (d.F (blk q.2)).bytes.size≤b
 rw[h.F _ hl]
 exact hs.fl q.2
theorem Is.used {d:Dv} {R:Rk} {blk:Nat→Nat} (h:Is d R blk):used d.F d.names=R.use R.now:=by
 rw[← Rd.use_perm R (Rd.tab_perm R.now (h.ok.dir_keyed _)),h.names]
 unfold Pk.used Rk.use
 rw[List.map_map]
 congr 1
 refine List.map_congr_left fun p hp=>?_
 have hl:=h.ok.dir_file _ p ((Rd.tab_mem (h.ok.dir_keyed _)).1 hp)
 show (d.F (blk p.2)).bytes.size=_
 rw[h.F _ hl]
def DP (w0:World) (D E:Nat) (Q R:Rk) (O:Nat→Prop) (n:Int) (e:Ending) (w':World):Prop:=e = .returned (.int .i64 n)∧Half w0 w' D E Q R O
theorem face_create (D:Nat) (y:ByteArray) (w:World) (P:Ending→World→Prop) (h:Calls Tryz.prog 224 #[.pointer (some ⟨D,0,none⟩),.string y] w fun e w'=>∃ n,e = .returned (.int .i64 n)∧P e w') :
  Calls Tryz.prog 143 #[.pointer (some ⟨D,0,none⟩),.string y] w P:=by
 go_enter Tryz.func143,Tryz.ntmps143
 go_wp2_with fail
 refine h.mono ?_
 rintro e w1 ⟨n,rfl,hr⟩
 have H:=hde hr
 clear hr h
 go_wp2
 exact uh H
theorem face_remove (D:Nat) (y:ByteArray) (w:World) (P:Ending→World→Prop) (h:Calls Tryz.prog 231 #[.pointer (some ⟨D,0,none⟩),.string y] w fun e w'=>∃ n,e = .returned (.int .i64 n)∧P e w') :
  Calls Tryz.prog 148 #[.pointer (some ⟨D,0,none⟩),.string y] w P:=by
 go_enter Tryz.func148,Tryz.ntmps148
 go_wp2_with fail
 refine h.mono ?_
 rintro e w1 ⟨n,rfl,hr⟩
 have H:=hde hr
 clear hr h
 go_wp2
 exact uh H
theorem face_sync (D:Nat) (y:ByteArray) (w:World) (P:Ending→World→Prop) (h:Calls Tryz.prog 229 #[.pointer (some ⟨D,0,none⟩),.string y] w fun e w'=>∃ n,e = .returned (.int .i64 n)∧P e w') :
  Calls Tryz.prog 146 #[.pointer (some ⟨D,0,none⟩),.string y] w P:=by
 go_enter Tryz.func146,Tryz.ntmps146
 go_wp2_with fail
 refine h.mono ?_
 rintro e w1 ⟨n,rfl,hr⟩
 have H:=hde hr
 clear hr h
 go_wp2
 exact uh H
theorem face_rename (D:Nat) (x y:ByteArray) (w:World) (P:Ending→World→Prop) (h:Calls Tryz.prog 230 #[.pointer (some ⟨D,0,none⟩),.string x,.string y] w fun e w'=>∃ n,e = .returned (.int .i64 n)∧P e w') :
  Calls Tryz.prog 147 #[.pointer (some ⟨D,0,none⟩),.string x,.string y] w P:=by
 go_enter Tryz.func147,Tryz.ntmps147
 go_wp2_with fail
 refine h.mono ?_
 rintro e w1 ⟨n,rfl,hr⟩
 have H:=hde hr
 clear hr h
 go_wp2
 exact uh H
theorem face_append (D:Nat) (x y:ByteArray) (w:World) (P:Ending→World→Prop) (h:Calls Tryz.prog 228 #[.pointer (some ⟨D,0,none⟩),.string x,.string y] w fun e w'=>∃ n,e = .returned (.int .i64 n)∧P e w') :
  Calls Tryz.prog 145 #[.pointer (some ⟨D,0,none⟩),.string x,.string y] w P:=by
 go_enter Tryz.func145,Tryz.ntmps145
 go_wp2_with fail
 refine h.mono ?_
 rintro e w1 ⟨n,rfl,hr⟩
 have H:=hde hr
 clear hr h
 go_wp2
 exact uh H
theorem face_syncDir (D:Nat) (w:World) (P:Ending→World→Prop) (h:Calls Tryz.prog 232 #[.pointer (some ⟨D,0,none⟩)] w fun e w'=>∃ n,e = .returned (.int .i64 n)∧P e w') :
  Calls Tryz.prog 149 #[.pointer (some ⟨D,0,none⟩)] w P:=by
 go_enter Tryz.func149,Tryz.ntmps149
 go_wp2_with fail
 refine h.mono ?_
 rintro e w1 ⟨n,rfl,hr⟩
 have H:=hde hr
 clear hr h
 go_wp2
 exact uh H
end Go.Proofs.YteflnddphpjahaaGreatDoor.Pk
