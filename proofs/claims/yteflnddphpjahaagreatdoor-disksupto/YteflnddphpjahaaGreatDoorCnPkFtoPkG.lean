import Derived.Test.YteflnddphpjahaaGreatDoorCnPkDtoPkE
import Derived.BigRegionIn
set_option linter.unusedVariables false
set_option linter.unusedSimpArgs false
set_option maxRecDepth 100000
set_option maxHeartbeats 16000000
namespace Go.Proofs.YteflnddphpjahaaGreatDoor.Pk
open Go.RowKit
open Sd (Tb)
open Dk
def MsPost (D:Nat) (d:Dv) (T:Tb) (w:World) (e:Ending) (w':World):Prop :=
 e = .returned (.tuple #[])∧∃ vs',w'.heap[D]? = some (.cells ({ d with vs:=vs',vc := .slice none 0 0 }:Dv).cells 273 (0,0)) ∧
  w'.ownsRow 0 419 2 vs' T.length (tbCells T)∧Kept w w' (fun k=>k≠D)∧∀ g,vs'.ownBlock=some g→w.heap.size≤g
theorem makeSafe_any (D:Nat) (d:Dv) (T:Tb) (w:World) (h:TabIn w D 1 d.cells 273 d.vn T) (hvs:∃ p n c,d.vs = .slice p n c) (hvc:∃ p n c,d.vc = .slice p n c) :
  Calls Tryz.prog 266 #[.pointer (some ⟨D,0,none⟩)] w (MsPost D d T w):=by
 have hcl:=tclone_any D 1 d.cells 273 d.vn T w h
 obtain⟨p2,n2,c2,e2⟩:=hvs
 obtain⟨p3,n3,c3,e3⟩:=hvc
 have HB:=hde h.blk
 clear h
 go_enter Tryz.func266,Tryz.ntmps266
 go_wp2_with fail
 refine hcl.mono ?_
 rintro e w1 ⟨v',rfl,h1,hb,hn⟩
 have hblk:=(hb.block D (blk_lt (uh HB))).trans (uh HB)
 have c2':w1.cell? ⟨D,2,none⟩=some (.slice p2 n2 c2):=by rw[cell_of_row w1 _ 2 _ _ _ hblk,← e2];rfl
 have c3':w1.cell? ⟨D,3,none⟩=some (.slice p3 n3 c3):=by rw[cell_of_row w1 _ 3 _ _ _ hblk,← e3];rfl
 have f2':w1.frozen? ⟨D,2,none⟩=false:=by simp[World.frozen?,hblk]
 have f3':w1.frozen? ⟨D,3,none⟩=false:=by simp[World.frozen?,hblk]
 obtain⟨p',c',rfl⟩:=own_sl h1
 have H:=hde (And.intro h1 (And.intro hb (And.intro hn hblk)))
 clear hcl h1 hb hn hblk e2 e3
 go_wp2
 obtain⟨h1,hb,hn,hblk⟩:=uh H
 have hDw:D < w.heap.size:=blk_lt (uh HB)
 refine bodyPost_end (results_none rfl _ _ _) rfl ⟨rfl,.slice p' T.length c',?_,?_,?_,hn⟩
 ·have e1:=heap_setCell_same w1 D 2 _ _ (.slice p' T.length c') hblk
  have e2:=heap_setCell_same _ D 3 _ _ (.slice none 0 0) e1
  exact e2
 ·refine ownsRow_setCell_other (ownsRow_setCell_other h1 (fun e=>?_) _) (fun e=>?_) _
  ·have:=hn _ e
   simp at this;omega
  ·have:=hn _ e
   simp at this;omega
 ·exact((Kept.below hb _).setCell (fun hk=>hk rfl) _).setCell (fun hk=>hk rfl) _
def Dv.sy (d:Dv) (vs':Value):Dv:={ d with safe:=d.names,chs:=[],vs:=vs',vc := .slice none 0 0 }
theorem DAt.sy {w w':World} {D:Nat} {d:Dv} {vs':Value} (hd:DAt w D d) (hblk:w'.heap[D]? = some (.cells ({ d with vs:=vs',vc := .slice none 0 0 }:Dv).cells 273 (0,0))) (hrow:w'.ownsRow 0 419 2 vs' d.names.length (tbCells d.names)) (hk:Kept w w' (fun k=>k≠D)) (hn:∀ g,vs'.ownBlock=some g→w.heap.size≤g):DTo w w' D d (d.sy vs'):=by
 refine⟨⟨hblk,?_,hrow,World.ownsRow_nil _ _ _ _,hd.sn,hd.sn,fun g hg e=>?_,fun f hf=>?_,hd.fap,hd.inN,hd.inN,fun c hc=>(by cases hc)⟩,hk.mono (fun k _ h e=>h (Or.inl e)),fun k hk=>?_⟩
 ·refine own_kept hd.rn hk (fun g hg=>?_)
  obtain⟨c,hc,_⟩:=own_blk hd.rn hg
  exact blk_ne hc hd.blk (by decide)
 ·have:=hn g e
  have:=own_lt hd.rn hg
  omega
 ·have hf':=hd.files f hf
  refine hf'.kept hk (blk_ne hf'.blk hd.blk (by decide)) (fun g hg=>?_)
  obtain⟨c,hc⟩:=hf'.own hg
  exact blk_ne hc hd.blk (by decide)
 ·rcases hk with e | e | e | e | e
  ·exact Or.inl (Or.inl e)
  ·exact Or.inl (Or.inr (Or.inl e))
  ·exact Or.inr (hn k e)
  ·simp[Dv.sy,Value.ownBlock] at e
  ·exact Or.inl (Or.inr (Or.inr (Or.inr (Or.inr e))))
def Dv.sdE (d:Dv):Int:=if d.up=true then 0 else 9
def Dv.sdD (d:Dv) (d':Dv):Prop:=if d.up=true then ∃ vs',d'=d.cnt.sy vs' else d'=d.cnt
theorem syncDir_any (D:Nat) (d:Dv) (w:World) (h:DAt w D d) (hl:d.names.length≤100000) :
  Calls Tryz.prog 232 #[.pointer (some ⟨D,0,none⟩)] w (OpPost w D d d.sdE d.sdD):=by
 have hop:=operates_any D d w h
 obtain⟨en,_,ec,_⟩:=cnt_same d
 cases hup:d.up with
 | false =>
  have h9:d.sdE=9:=by unfold Dv.sdE;rw[hup];rfl
  have HD:Hid (d.sdD d.cnt):=by show Dv.sdD _ _;unfold Dv.sdD;rw[hup];rfl
  rw[hup] at hop
  rw[h9]
  clear h hup h9
  go_enter Tryz.func232,Tryz.ntmps232
  go_wp2_with fail
  refine hop.mono ?_
  rintro e w0 ⟨rfl,h0,_⟩
  have H0:=hde h0
  clear h0 hop
  go_wp2
  go_ret
  exact⟨rfl,_,uh HD,uh H0⟩
 | true =>
  have h9:d.sdE=0:=by unfold Dv.sdE;rw[hup];rfl
  have HD:Hid (∀ vs',d.sdD (d.cnt.sy vs')):=fun vs'=>by unfold Dv.sdD;rw[if_pos hup];exact⟨vs',rfl⟩
  rw[hup] at hop
  rw[h9]
  clear h hup h9
  go_enter Tryz.func232,Tryz.ntmps232
  go_wp2_with fail
  refine hop.mono ?_
  rintro e w0 ⟨rfl,h0,_⟩
  have hd:=h0.at'
  have hms:=makeSafe_any D d.cnt d.cnt.names w0 (hd.tabN (by rw[en];exact hl)) (by obtain⟨p,c,e⟩:=own_sl hd.rs;exact⟨p,_,c,e⟩) (by obtain⟨p,c,e⟩:=own_sl hd.rc;exact⟨p,_,c,e⟩)
  have H0:=hde h0
  clear h0 hop hd en ec
  go_wp2_with fail
  refine hms.mono ?_
  rintro e w1 ⟨rfl,vs',hblk,hrow,hk,hn⟩
  have H:=hde (And.intro hblk (And.intro hrow (And.intro hk hn)))
  clear hms hblk hrow hk hn
  go_wp2
  go_ret
  obtain⟨hblk,hrow,hk,hn⟩:=uh H
  exact⟨rfl,_,(uh HD) vs',(uh H0).trans ((uh H0).at'.sy hblk hrow hk hn)⟩
def Dv.setF (d:Dv) (f:Nat) (X:Fl) (v':Value):Dv:={ d with F:=upd d.F f X,vb:=upd d.vb f v' }
theorem disk_file {w W:World} {D f:Nat} {d:Dv} {X:Fl} {v':Value} (hd:DAt w D d) (hf:f ∈ d.fs)
  (hk:Kept w W (fun k=>k≠f∧(d.vb f).ownBlock≠some k)) (hx:FAt W f X v') (hn:v'.ownBlock=(d.vb f).ownBlock∨∃ g,v'.ownBlock=some g∧w.heap.size≤g) :
  DTo w W D d (d.setF f X v'):=by
 have hff:=hd.files f hf
 have hDw:=blk_lt hd.blk
 have hnot:∀ g e c,w.heap[g]? = some (.cells c e (0,0))→e≠364→e≠5→(g≠f∧(d.vb f).ownBlock≠some g):=fun g e c hg h1 h2=>by
  refine⟨blk_ne hg hff.blk h1,fun e'=>?_⟩
  obtain⟨c',hc'⟩:=hff.own e'
  exact blk_ne hg hc' h2 rfl
 have hrow:∀ {e size n:Nat} {v:Value} {xs:List Value},w.ownsRow 0 e size v n xs→e≠364→e≠5→W.ownsRow 0 e size v n xs:=fun h h1 h2=>own_kept h hk (fun g hg=>by
  obtain⟨c,hc,_⟩:=own_blk h hg
  exact hnot g _ c hc h1 h2)
 have hnew:∀ k,k ∈ d.fs→k≠f→∀ g,v'.ownBlock=some g→(d.vb k).ownBlock≠some g:=fun k hk2 hkf g hg e=>by
  rcases hn with h | ⟨g',h,hg'⟩
  ·rw[h] at hg;exact hd.fap f k hf hk2 (Ne.symm hkf) g hg e
  ·rw[h] at hg
   have:g'=g:=Option.some.inj hg
   obtain⟨c,hc⟩:=(hd.files k hk2).own e
   have:=blk_lt hc
   omega
 refine⟨⟨?_,hrow hd.rn (by decide) (by decide),hrow hd.rs (by decide) (by decide),hrow hd.rc (by decide) (by decide),hd.sn,hd.ss,hd.apart,fun k hkk=>?_,fun k k' hkk hkk' hne g hg=>?_,hd.inN,hd.inS,hd.inC⟩,hk.mono (fun k _ hh=>⟨fun e=>hh (Or.inr (Or.inr (Or.inr (Or.inr ⟨f,hf,Or.inl e⟩)))),fun e=>hh (Or.inr (Or.inr (Or.inr (Or.inr ⟨f,hf,Or.inr e⟩))))⟩),fun k hk'=>?_⟩
 ·have:=hnot D _ _ hd.blk (by decide) (by decide)
  rw[hk.block D hDw this];exact hd.blk
 ·show FAt W k (upd d.F f X k) (upd d.vb f v' k)
  by_cases e:k=f
  ·subst e;rw[upd_same,upd_same];exact hx
  ·rw[upd_other _ _ e,upd_other _ _ e]
   refine(hd.files k hkk).kept hk ⟨e,fun e'=>?_⟩ (fun g hg=>⟨?_,fun e'=>hd.fap k f hkk hf e g hg e'⟩)
   ·obtain⟨c,hc⟩:=hff.own e'
    exact blk_ne hc (hd.files k hkk).blk (by decide) rfl
   ·obtain⟨c,hc⟩:=(hd.files k hkk).own hg
    exact blk_ne hc hff.blk (by decide)
 ·have hg2:(upd d.vb f v' k).ownBlock=some g:=hg
  clear hg
  show (upd d.vb f v' k').ownBlock≠some g
  by_cases e:k=f
  ·subst e
   rw[upd_same] at hg2
   rw[upd_other _ _ (Ne.symm hne)]
   exact hnew k' hkk' (Ne.symm hne) g hg2
  ·rw[upd_other _ _ e] at hg2
   by_cases e':k'=f
   ·subst e'
    rw[upd_same]
    exact fun h=>hnew k hkk e g h hg2
   ·rw[upd_other _ _ e'];exact hd.fap k k' hkk hkk' hne g hg2
 ·rcases hk' with e | e | e | e | ⟨x,hx,e⟩
  ·exact Or.inl (Or.inl e)
  ·exact Or.inl (Or.inr (Or.inl e))
  ·exact Or.inl (Or.inr (Or.inr (Or.inl e)))
  ·exact Or.inl (Or.inr (Or.inr (Or.inr (Or.inl e))))
  ·by_cases hxf:x=f
   ·subst hxf
    rcases e with e | e
    ·exact Or.inl (Or.inr (Or.inr (Or.inr (Or.inr ⟨x,hx,Or.inl e⟩))))
    ·have e:(upd d.vb x v' x).ownBlock=some k:=e
     rw[upd_same] at e
     rcases hn with h | ⟨g',h,hg'⟩
     ·exact Or.inl (Or.inr (Or.inr (Or.inr (Or.inr ⟨x,hx,Or.inr (h ▸ e)⟩))))
     ·rw[h] at e
      have:=Option.some.inj e
      exact Or.inr (by omega)
   ·refine Or.inl (Or.inr (Or.inr (Or.inr (Or.inr ⟨x,hx,?_⟩))))
    rcases e with e | e
    ·exact Or.inl e
    ·have e:(upd d.vb f v' x).ownBlock=some k:=e
     rw[upd_other _ _ hxf] at e
     exact Or.inr e
theorem file_set1 {w:World} {f:Nat} {X:Fl} {v:Value} (h:FAt w f X v) (n:Nat):FAt (w.setCell ⟨f,1,none⟩ (.int .i64 n)) f ⟨X.bytes,n⟩ v :=
 ⟨by rw[heap_setCell_same w f 1 _ _ _ h.blk];rfl,ownsRow_setCell_other h.row (fun e=>by
  obtain⟨c,hc⟩:=h.own e
  exact blk_ne hc h.blk (by decide) rfl) _⟩
theorem onE_zero {d:Dv} {y:ByteArray} (hs:Sd.tsorted d.names) (h:d.onE y=0):∃ f,Sd.tget d.names y=some f∧d.onF y=some f:=by
 unfold Dv.onE at h
 cases hup:d.up with
 | false=>rw[hup] at h;simp at h
 | true =>
  cases hh:Sd.thas d.names y with
  | false=>rw[hup,hh] at h;simp at h
  | true =>
   obtain⟨_,_,e2⟩:=Sd.tget_at hs hh
   refine⟨_,e2,?_⟩
   unfold Dv.onF
   rw[if_pos hup,e2]
def Dv.snD (d:Dv) (y:ByteArray) (d':Dv):Prop:=if d.onE y=0 then ∃ f v',Sd.tget d.names y=some f∧d'=d.cnt.setF f ⟨(d.F f).bytes,(d.F f).bytes.size⟩ v' else d'=d.cnt
theorem sync_any (D:Nat) (d:Dv) (y:ByteArray) (w:World) (h:DAt w D d) (hl:d.names.length≤100000) :
  Calls Tryz.prog 229 #[.pointer (some ⟨D,0,none⟩),.string y] w (OpPost w D d (d.onE y) (d.snD y)):=by
 have hon:=operatesOn_any D d y w h hl
 obtain⟨en,_,ec,ef,eF,_⟩:=cnt_same d
 by_cases h0:d.onE y=0
 ·obtain⟨f,hf,hof⟩:=onE_zero h.sn h0
  have HD:Hid (∀ v',d.snD y (d.cnt.setF f ⟨(d.F f).bytes,(d.F f).bytes.size⟩ v')):=fun v'=>by unfold Dv.snD;rw[if_pos h0];exact⟨f,v',hf,rfl⟩
  have HM:=hde (h.inN (y,f) ((Sd.tget_mem h.sn).1 hf))
  rw[hof,h0] at hon
  rw[h0]
  unfold optPtr fptr at hon
  clear h h0 hf hof
  go_enter Tryz.func229,Tryz.ntmps229
  go_wp2_with fail
  refine hon.mono ?_
  rintro e w1 ⟨rfl,h1⟩
  have hd1:=h1.at'
  have hmf:f ∈ d.cnt.fs:=by rw[ef];exact uh HM
  have hff:=hd1.files f hmf
  rw[eF] at hff
  have hrow:=hff.row
  obtain⟨p,cap,hv⟩:=own_sl hrow
  have hblk:=hff.blk
  rw[hv] at hblk
  have c0:w1.cell? ⟨f,0,none⟩=some (.slice p (d.F f).bytes.size cap):=by rw[cell_of_row w1 _ 0 _ _ _ hblk];rfl
  have c1:w1.cell? ⟨f,1,none⟩=some (.int .i64 (d.F f).safe):=by rw[cell_of_row w1 _ 1 _ _ _ hblk];rfl
  have f1:w1.frozen? ⟨f,1,none⟩=false:=by simp[World.frozen?,hblk]
  have hm:(d.F f).bytes.size≤9223372036854775807:=by
   rcases hrow.2 with ⟨_,h0⟩ | ⟨_,cap',_,_,_,_,h1,h2,_⟩
   ·omega
   ·unfold maxLen at h2;omega
  have HF:=hde hff
  have H1:=hde h1
  have HMF:=hde hmf
  clear hd1 hff hrow hv hblk h1 hon hmf eF ef en ec
  go_wp2
  go_ret
  have r:=disk_file (uh H1).at' (uh HMF) (W:=w1.setCell ⟨f,1,none⟩ (.int .i64 ((d.F f).bytes.size:Nat))) ((Kept.refl w1 _).setCell (fun hk=>hk.1 rfl) _) (file_set1 (uh HF) (d.F f).bytes.size) (Or.inl rfl)
  exact⟨rfl,_,(uh HD) _,(uh H1).trans r⟩
 ·have HD:Hid (d.snD y d.cnt):=by show Dv.snD _ _ _;unfold Dv.snD;rw[if_neg h0]
  obtain⟨n,hn⟩:∃ n,d.onE y=n:=⟨_,rfl⟩
  have hn0:(n == 0)=false:=beq_eq_false_iff_ne.2 (hn ▸ h0)
  rw[hn] at hon ⊢
  obtain⟨p,hp⟩:∃ p,optPtr (d.onF y) = .pointer p:=by cases d.onF y <;> exact⟨_,rfl⟩
  rw[hp] at hon
  clear h h0 hp hn
  go_enter Tryz.func229,Tryz.ntmps229
  go_wp2_with fail
  refine hon.mono ?_
  rintro e w1 ⟨rfl,h1⟩
  have H1:=hde h1
  clear hon h1
  go_wp2
  go_ret
  exact⟨rfl,_,uh HD,uh H1⟩
open Go.RowKit Go.Shelf
attribute [local go_sem] Oper.semAt_some
theorem keptN_bk {N:Nat} {ok:Nat→Prop} {w:World} (hn:N≤w.heap.size) (W:World) (l:Nat) (o o':Obj) (hl:w.heap.size≤l) (h:W.heap[l]? = some o) (_:o.isCells=false) (_:o.isWalk=false):KeptN N ok W (W.putObj l o'):=
 KeptN.putObj W l o o' (by omega) h
theorem blk_own {β : Type} (B k:Nat) (f : β→Obj) (hf:∀ s,(f s).isCells=true):OwnFrom B (fun (s : β) W=>W.heap[k]? = some (f s)):=fun s W W' row hs hg hr=>by
 have hs:W.heap[k]? = some (f s):=hs
 have hk:k < W.heap.size:=(Array.getElem?_eq_some_iff.1 hs).1
 refine(hg.block k hk (fun e=>?_)).trans hs
 obtain⟨_,o,ho,hc⟩:=hr k e.symm
 rw[hs] at ho
 have:f s=o:=Option.some.inj ho
 rw[← this,hf s] at hc;cases hc
def used (F:Nat→Fl) (T:Sd.Tb):Nat:=(T.map fun p=>(F p.2).bytes.size).sum
theorem used_le (F:Nat→Fl) {T:Sd.Tb} (pre:List { x:ByteArray × Nat // x ∈ T }) (hu:∀ p ∈ T,(F p.2).bytes.size≤1099511627776):used F (pre.map (·.1))≤pre.length * 1099511627776:=by
 induction pre with
 | nil=>simp[used]
 | cons p t ih =>
  have h:=hu p.1 p.2
  simp only[used,List.map_cons,List.sum_cons,List.length_cons,Nat.succ_mul] at ih ⊢
  omega
theorem used_any (D:Nat) (d:Dv) (w:World) (h:DAt w D d) (hl:d.names.length≤100000) (hu:∀ p ∈ d.names,(d.F p.2).bytes.size≤1099511627776) :
  Calls Tryz.prog 154 #[.pointer (some ⟨D,0,none⟩)] w fun e w'=>e = .returned (.int .i64 (used d.F d.names))∧Below w.heap.size w w':=by
 refine(callsIn_wide (n:=5)).1 ?_
 refine callsIn_of_wp_marks Tryz.func154 rfl trivial ?_ rfl
 simp only[Tryz.ntmps154,List.size_toArray,List.length_cons,List.length_nil,Nat.reduceAdd,Nat.reduceSub,Array.replicate_succ,Array.replicate_zero,List.push_toArray,List.append_toArray,List.nil_append,List.cons_append]
 obtain⟨p,cap,hvn,hents⟩:=ents_of_own (h.rn)
 have HD:=hde h
 have hDw:D < w.heap.size:=blk_lt h.blk
 gi_wp2_with (refine⟨trivial,?_⟩;gi_at_call 234;refine(all_in _ _ trivial rfl _ _).mono ?_;rintro e w' ⟨rfl,rfl⟩)
 obtain⟨W0,hW0⟩:∃ W0,((w.alloc (.cells #[.int .i64 0] 3)).alloc (.cells #[.pointer (some ⟨D,1,none⟩)] 393))=W0:=⟨_,rfl⟩
 have hsz:W0.heap.size=w.heap.size+2:=by rw[← hW0];simp
 have hB0:Below w.heap.size w W0:=by rw[← hW0];exact((Below.refl _ w).alloc nlr _).alloc (by simp) _
 have hU0:W0.heap[w.heap.size]? = some (.cells #[.int .i64 0] 3 (0,0)):=by
  rw[← hW0,Below.heap_alloc _ _ _ (by simp)];exact World.alloc_heap_new w _
 have hP0:W0.cell? ⟨w.heap.size+1,0,none⟩=some (.pointer (some ⟨D,1,none⟩)):=by
  have:=World.alloc_heap_new (w.alloc (.cells #[.int .i64 0] 3)) (.cells #[.pointer (some ⟨D,1,none⟩)] 393)
  rw[World.size_alloc,hW0] at this
  simp[World.cell?,this]
 have hT0:W0.cell? ⟨D,1,none⟩=some (.slice p d.names.length cap):=by
  rw[hB0.cell (p:=⟨D,1,none⟩) hDw,cell_of_row w D 1 _ _ _ h.blk,← hvn];rfl
 have hC0:∀ j (hj:j < d.names.length),∃ g,p=some ⟨g,0,none⟩∧g < w.heap.size∧True∧W0.cell? ⟨g,j * 2,none⟩=some (.string d.names[j].1)∧W0.cell? ⟨g,j * 2+1,none⟩=some (fptr d.names[j].2):=fun j hj=>by
  obtain⟨g,e,c0,c1⟩:=hents j hj
  have hg:=World.block_lt_of_cell? w _ c0
  exact⟨g,e,hg,trivial,(hB0.cell (p:=⟨g,j * 2,none⟩) hg).trans c0,(hB0.cell (p:=⟨g,j * 2+1,none⟩) hg).trans c1⟩
 rw[hW0]
 clear hW0 hents hvn h
 refine wpIn_rangeFunc_ownG rfl (by omega) (gf:=291) (lb := #[.pointer (some ⟨w.heap.size+1,0,none⟩)]) rfl trivial (enters_of Tryz.func291 (by kernel_rfl) rfl)
  (all_stops _ _ trivial rfl (by omega) (w.heap.size+1) D 1 w.heap.size (fun _=>True) p cap d.names hl W0 (by omega) (by omega) (by omega) hP0 hT0 hC0) (fun h k=>h.trans k) (keptN_bk (by omega)) (Below.refl _ _) (fun _=>rfl)
  (fun pre W=>W.heap[w.heap.size]? = some (.cells #[.int .i64 (used d.F (pre.map (·.1)))] 3 (0,0))∧Below w.heap.size W0 W)
  (fun _ _ _=>False)
  (OwnFrom.and (blk_own _ _ (fun pre:List { x:ByteArray × Nat // x ∈ d.names }=>Obj.cells #[.int .i64 (used d.F (pre.map (·.1)))] 3 (0,0)) (fun _=>rfl)) (ownFrom_below (by omega) (by omega)))
  (fun _ _ _ _ _ hs _ _=>hs)
  ⟨hU0,Below.refl _ _⟩
  (fun y=>{ tmps := #[.pointer (some ⟨D,0,none⟩),undef,.int .i64 0,.pointer (some ⟨w.heap.size,0,none⟩),undef,fptr y.1.2,.pointer (some ⟨D,0,none⟩),.pointer (some ⟨D,0,none⟩),.pointer (some ⟨D,1,none⟩),.func (.func 291) #[] #[.pointer (some ⟨w.heap.size+1,0,none⟩)],.string y.1.1,fptr y.1.2,undef,undef,undef,undef,undef,undef,undef,undef],defers:=[] }) ?assign ?body ?done ?stop
 case assign =>
  intro l y W K hK
  gi_wp2
  exact hK
 case body =>
  rintro l' pre ⟨⟨ya,yf⟩,hy⟩ W ⟨hUW,hBW⟩ hlt
  have hd:=(uh HD).below (hB0.trans hBW)
  have hff:=hd.files yf (hd.inN (ya,yf) hy)
  obtain⟨pb,cb,hvb⟩:=own_sl hff.row
  have hfb:=hff.blk
  rw[hvb] at hfb
  have k0:W.cell? ⟨yf,0,none⟩=some (.slice pb (d.F yf).bytes.size cb):=by rw[cell_of_row W _ 0 _ _ _ hfb];rfl
  have u0:W.cell? ⟨w.heap.size,0,none⟩=some (.int .i64 (used d.F (pre.map (·.1)))):=by rw[cell_of_row W _ 0 _ _ _ hUW];rfl
  have uf:W.frozen? ⟨w.heap.size,0,none⟩=false:=by simp[World.frozen?,hUW]
  have hs1:=hu (ya,yf) hy
  have hs2:used d.F (pre.map (·.1))≤109951162777600000:=Nat.le_trans (used_le d.F pre hu) (Nat.le_trans (Nat.mul_le_mul_right 1099511627776 (show pre.length≤100000 by omega)) (by decide))
  have hnext:used d.F ((pre++[(⟨(ya,yf),hy⟩:{ x:ByteArray × Nat // x ∈ d.names })]).map (·.1))=used d.F (pre.map (·.1))+(d.F yf).bytes.size:=by simp[used]
  generalize used d.F (pre.map (·.1))=U at hUW u0 hs2 hnext
  have hs1:(d.F yf).bytes.size≤1099511627776:=hs1
  have HN:=hde hnext
  have HU:=hde hUW
  have HB:=hde hBW
  clear hd hff hfb hvb hnext hUW hBW
  unfold fptr
  gi_wp2
  gi_region
  all_goals
   have ew:IntKind.i64.wrap ((U:Int)+((d.F yf).bytes.size:Int))=((U+(d.F yf).bytes.size:Nat):Int):=by rw[IntKind.wrap_i64];omega
   rw[ew]
   have hko:KeepsOthers W (W.setCell ⟨w.heap.size,0,none⟩ (.int .i64 ((U+(d.F yf).bytes.size:Nat):Int))).drew:=⟨(KeepsOthers.setCell W _ _).1,(KeepsOthers.setCell W _ _).2⟩
   have hbl:(W.setCell ⟨w.heap.size,0,none⟩ (.int .i64 ((U+(d.F yf).bytes.size:Nat):Int))).drew.heap[w.heap.size]? = some (.cells #[.int .i64 ((U+(d.F yf).bytes.size:Nat):Int)] 3 (0,0)):=heap_setCell_same W w.heap.size 0 _ _ _ (uh HU)
   have hbb:Below w.heap.size W (W.setCell ⟨w.heap.size,0,none⟩ (.int .i64 ((U+(d.F yf).bytes.size:Nat):Int))).drew:=((Below.refl w.heap.size W).setCell (p:=⟨w.heap.size,0,none⟩) nlr _).drew
   exact⟨hko.from _,⟨hbb.os,hbb.tape,hbb.output,hbb.size,fun k hk _=>hbb.block k hk⟩,by rw[uh HN];exact hbl,(uh HB).trans hbb⟩
 case done =>
  rintro Dd ys W hDd hys ⟨hUW,hBW⟩ hK
  have hUW:W.heap[w.heap.size]? = some (.cells #[.int .i64 (used d.F d.names)] 3 (0,0)):=by
   rw[hys,List.attach_map_subtype_val] at hUW;exact hUW
  have u0:W.cell? ⟨w.heap.size,0,none⟩=some (.int .i64 (used d.F d.names)):=by rw[cell_of_row W _ 0 _ _ _ hUW];rfl
  have hB1:=hB0.trans hBW
  clear hys hUW
  gi_wp2
  refine⟨by simp,.inl ⟨_,_,rfl,run_takeDeferred hK,?_⟩⟩
  refine⟨.int .i64 (used d.F d.names),by simp[results,Tryz.results154,go_sem],rfl,?_⟩
  exact hB1.grown (grownBy_putObj' W Dd _) hB1.size (fun k hk=>by cases hk;omega)
 case stop =>
  intro D' c pre W _ _ h
  exact h.elim
end Go.Proofs.YteflnddphpjahaaGreatDoor.Pk
