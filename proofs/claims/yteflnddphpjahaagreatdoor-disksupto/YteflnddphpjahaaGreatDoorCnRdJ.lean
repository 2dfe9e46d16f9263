import Derived.Test.YteflnddphpjahaaGreatDoorCnRdHtoRdI
import Derived.Deep.Cut
set_option linter.unusedVariables false
set_option linter.unusedSimpArgs false
set_option maxRecDepth 100000
set_option maxHeartbeats 16000000
namespace Go.Proofs.YteflnddphpjahaaGreatDoor.Rd
open Go.RowKit
open Sd (Tb)
open Dk (Kept own_kept)
theorem Tryz.info_rfile:(Tryz.prog.info? 298).map (fun i=>(i.zero,i.size,i.bytes))=some (some (.agg #[.string ⟨#[]⟩,.int .i64 0]),2,24):=by kernel_rfl
theorem fl_snoc (L:List Fl) (f:Fl):flCells (L++[f])=flCells L++[.string f.bytes,.int .i64 (f.safe:Int)]:=by simp[flCells]
theorem files_ok {R:Rk} (h:R.Ok):({ R with files:=R.files++[⟨e0,0⟩] }:Rk).Ok:=by
 obtain⟨a,b,s,d,e⟩:=h
 have hl:∀ n,n < R.files.length→n < (R.files++[Fl.mk e0 0]).length:=fun n hn=>by simp;omega
 refine⟨a,b,fun p hp=>hl _ (s p hp),fun c hc=>(d c hc).imp (hl _) id,fun x hx=>?_⟩
 rcases List.mem_append.1 hx with h1 | h1
 ·exact e x h1
 ·rw[List.mem_singleton.1 h1];exact Nat.zero_le _
theorem RAt.snocF {w w2:World} {D:Nat} {R:Rk} {vf vs vc:Value} (h:RAt w D R vf vs vc) {v':Value} (hown:w2.ownsRow 0 298 2 v' (R.files.length+1) (flCells R.files++[.string e0,.int .i64 0])) (hg:w.grownBy w2 vf.ownBlock) (hnew:∀ k,v'.ownBlock=some k→vf.ownBlock=some k∨w.heap.size≤k) :
  RTo w (w2.setCell ⟨D,0,none⟩ v') D vf vs vc { R with files:=R.files++[⟨e0,0⟩] } v' vs vc:=by
 have hne:some D≠vf.ownBlock:=fun e=>by
  obtain⟨c',hc',_⟩:=own_blk h.rf e.symm
  exact blk_ne hc' h.blk (by decide) rfl
 have hD:=blk_lt h.blk
 have hDb:w2.heap[D]? = some (.cells (rkCells R vf vs vc) 209 (0,0)):=(hg.block D hD hne).trans h.blk
 have hk0:Kept w w2 (fun k=>vf.ownBlock≠some k):=Kept.grown hg (fun k h=>h)
 have oth:∀ {e n:Nat} {v:Value} {xs:List Value} {s:Nat},w.ownsRow 0 e s v n xs→e≠298→e≠209→(w2.setCell ⟨D,0,none⟩ v').ownsRow 0 e s v n xs:=fun {e n v xs s} ho h1 h2=>by
  refine ownsRow_setCell_other (own_kept ho hk0 (fun g hg e2=>?_)) (fun e2=>?_) _
  ·obtain⟨x,hx,_⟩:=own_blk ho hg
   obtain⟨y,hy,_⟩:=own_blk h.rf e2
   exact blk_ne hx hy h1 rfl
  ·obtain⟨x,hx,_⟩:=own_blk ho e2
   exact blk_ne hx h.blk h2 rfl
 refine⟨⟨?_,?_,oth h.rs (by decide) (by decide),oth h.rc (by decide) (by decide),files_ok h.ok⟩,?_,fun k hk=>?_⟩
 ·rw[heap_setCell_same w2 D 0 _ _ _ hDb];rfl
 ·show (w2.setCell ⟨D,0,none⟩ v').ownsRow 0 _ 2 v' (R.files++[Fl.mk e0 0]).length (flCells (R.files++[Fl.mk e0 0]))
  rw[fl_snoc,List.length_append]
  refine ownsRow_setCell_other hown (fun e2=>?_) _
  obtain⟨x,hx,_⟩:=own_blk hown e2
  exact blk_ne hx hDb (by decide) rfl
 ·exact(hk0.mono (fun k _ hk e=>hk (Or.inr (Or.inl e)))).setCell (fun hk=>hk (Or.inl rfl)) _
 ·rcases hk with e | e | e | e
  ·exact Or.inl (Or.inl e)
  ·rcases hnew k e with e | e
   ·exact Or.inl (Or.inr (Or.inl e))
   ·exact Or.inr e
  ·exact Or.inl (Or.inr (Or.inr (Or.inl e)))
  ·exact Or.inl (Or.inr (Or.inr (Or.inr e)))
theorem fold_file (R:Rk) (x:Fl) (i:Nat) (h:i < R.files.length):({ R with files:=R.files++[x] }:Rk).fl i=R.fl i:=by
 unfold Rk.fl
 rw[List.getD_eq_getElem?_getD,List.getD_eq_getElem?_getD,List.getElem?_append_left h]
theorem does_create (D:Nat) (R:Rk) (vf vs vc:Value) (a b:ByteArray) (w:World) (h:RAt w D R vf vs vc) (hf:R.Fit) :
  Calls Tryz.prog 144 #[.pointer (some ⟨D,0,none⟩),opV 1 a b] w (TcPost w D vf vs vc (R.create a)):=by
 cases hup:R.up with
 | false =>
  have e:R.create a=(9,R.cnt):=by unfold Rk.create;rw[hup];simp
  rw[e]
  exact does_down D R vf vs vc 1 a b w h hf hup
 | true =>
  have hc:=fun o=>counts_any D R vf vs vc (w.alloc o) (h.below ((Below.refl _ w).alloc nlr o)) hf.left
  rw[hup] at hc
  have he:R.create a=if fnm a=true then (0,R.cnt.addF a) else (10,R.cnt):=by unfold Rk.create;rw[if_neg (by rw[hup];decide)]
  have HR:=hde h
  have HF:=hde hf
  have HE:=hde he
  clear h hf hup he
  unfold opV
  go_enter Tryz.func144,Tryz.ntmps144
  go_wp2_with fail
  refine(hc _).mono ?_
  rintro e w1 ⟨rfl,h1,_⟩
  have hC:=Cnt.mk' (uh HR) h1
  obtain⟨x0,x1,x2⟩:=hC.cells (Below.refl _ _)
  have HC:=hde hC
  clear h1 hc hC
  have s0:R.cnt.files.length≤100000000:=by rw[(cnt_files R).1];exact(uh HF).fn
  have s1:R.cnt.safe.length≤100000000:=by rw[(cnt_files R).2.1];exact(uh HF).safe
  have s2:R.cnt.chs.length≤100000000:=by rw[(cnt_files R).2.2.1];exact(uh HF).chs
  go_wp2_with fail
  refine(find_any D R.cnt vf vs vc a w1 (uh HC).to.at' s1 s2).mono ?_
  rintro e w2 ⟨rfl,hb2⟩
  obtain⟨y0,y1,y2⟩:=(uh HC).cells hb2
  have HB2:=hde hb2
  have HT2:=hde ((uh HC).to.trans (RTo.below (uh HC).to.at' (uh HB2)))
  have hbox:w2.heap[w.heap.size]? = some (.cells #[.int .i64 1,.string a,.string b] 292 (0,0)):=(hb2.block _ (blk_lt (uh HC).box)).trans (uh HC).box
  clear hb2 x0 x1 x2
  go_wp2_with fail
  refine(fileName_any a w2).mono ?_
  rintro e w3 ⟨rfl,hw3⟩
  obtain rfl:=hw3.symm
  cases hn:fnm a with
  | false =>
   have HE2:Hid (R.create a=(10,R.cnt)):=by show _=_;rw[uh HE,hn];rfl
   clear hn
   go_wp2
   go_ret
   exact⟨by rw[uh HE2];rfl,_,_,_,by rw[uh HE2];exact uh HT2⟩
  | true =>
   have HE2:Hid (R.create a=(0,R.cnt.addF a)):=by show _=_;rw[uh HE,hn];rfl
   clear hn
   obtain⟨i0,hti,hz0,hz1,hz2⟩:=info_parts Tryz.info_rfile
   have hr:=(uh HT2).at'
   obtain⟨c0,_,_,_⟩:=hr.cells
   obtain⟨pf,cf,hvf,_⟩:=fls_of_own hr.rf
   subst hvf
   have hD:=blk_lt hr.blk
   have hneD:some D≠(Value.slice pf R.cnt.files.length cf).ownBlock:=fun e=>by
    obtain⟨c',hc',_⟩:=own_blk hr.rf e.symm
    exact blk_ne hc' hr.blk (by decide) rfl
   have HA:=hde (fun o=>hr.below ((Below.refl _ w2).alloc nlr o))
   have hrf:=hr.rf
   clear hr
   go_wp2_with (first
    | (at_builtin;go_must (refine wpList_append_lies _ rfl (.tmp 30) (.tmp 32) 205 rfl 0 298 i0 _ 2 24 Tryz.underlying205 hti hz0 hz1 hz2 rfl (by decide) (.slice pf R.cnt.files.length cf) _ _ rfl (hrf.alloc _) ⟨w2.heap.size,0,none⟩ 1 1 [.string e0,.int .i64 0] rfl rfl (World.news_of_block (cs := #[.string e0,.int .i64 0]) (t:=298) (fr:=(0,0)) (heap_alloc_new w2 _)) (by simp[Value.oneCell']) (by omega) (by unfold maxLen;omega) (by omega) (Nat.zero_le _) (w2.heap.size+1) (by simp) ?_))
    | go_in)
   intro gg cp w3 hown1 hgrow hat hlt1
   have hq0:w3.cell? ⟨D,0,none⟩=some (.slice pf R.cnt.files.length cf):=(hgrow.cell_far ⟨D,0,none⟩ (by simp;omega) hneD).trans (by rw[cell_of_row _ D 0 _ _ _ ((uh HA) _).blk];rfl)
   have hq1:w3.frozen? ⟨D,0,none⟩=false:=(hgrow.frozen_far ⟨D,0,none⟩ (by simp;omega) hneD).trans (((uh HA) _).fz 0)
   have hS:=((uh HA) _).snocF hown1 hgrow (fun k hk=>by
    have e:gg=k:=by simpa [Value.ownBlock] using hk
    subst e
    rcases hat with e | e
    ·exact Or.inl e
    ·right;simp;omega)
   have hto3:=((uh HT2).trans (RTo.below (uh HT2).at' ((Below.refl _ w2).alloc nlr (.cells #[.string e0,.int .i64 0] 298)))).trans hS
   have hbx3:(w3.setCell ⟨D,0,none⟩ (.slice (some ⟨gg,0,none⟩) (R.cnt.files.length+1) cp)).heap[w.heap.size]? = some (.cells #[.int .i64 1,.string a,.string b] 292 (0,0)):=
    (hS.kept.block w.heap.size (by have:=blk_lt hbox;simp;omega) (fun hk=>by have:=rOwn_lt (uh HR) hk;omega)).trans ((Below.heap_alloc w2 _ _ (blk_lt hbox)).trans hbox)
   clear hown1 hgrow hat HA hneD hrf hS y0 y1 y2 c0
   go_upto_region 11 with (fail)
   clear hq0 hq1
   generalize (w3.setCell ⟨D,0,none⟩ (.slice (some ⟨gg,0,none⟩) (R.cnt.files.length+1) cp))=W at hto3 hbx3 ⊢
   have hr:=hto3.at'
   obtain⟨c0,_,c2,_⟩:=hr.cells
   have z1:W.cell? ⟨w.heap.size,1,none⟩=some (.string a):=by rw[cell_of_row W _ 1 _ _ _ hbx3];rfl
   have fz:=hr.fz 2
   have hDW:=blk_lt hr.blk
   obtain⟨pc,cc,hvc,_⟩:=chs_of_own hr.rc
   subst hvc
   have hneD:some D≠(Value.slice pc R.cnt.chs.length cc).ownBlock:=fun e=>by
    obtain⟨c',hc',_⟩:=own_blk hr.rc e.symm
    exact blk_ne hc' hr.blk (by decide) rfl
   have HBA:=hde (fun (o:Obj)=>(show ((W.alloc o).drew).heap[D]? = _ from (Below.heap_alloc W o D (by omega)).trans hr.blk))
   have HNW:Hid (((W.alloc (.cells #[.string ⟨#[]⟩,.string a,.int .i64 (R.cnt.files.length:Int)] 355)).drew).heap[W.heap.size]? = some (.cells #[.string ⟨#[]⟩,.string a,.int .i64 (R.cnt.files.length:Int)] 355 (0,0))):=heap_alloc_new W (.cells #[.string ⟨#[]⟩,.string a,.int .i64 (R.cnt.files.length:Int)] 355)
   have HR0:=hde hr
   have HRC:Hid (W.ownsRow 0 355 3 (.slice pc R.cnt.chs.length cc) R.cnt.chs.length (chCells R.cnt.chs)):=hr.rc
   have HTO:=hde hto3
   have hlw:IntKind.i64.wrap ((R.cnt.files.length:Int)+1 - 1)=(R.cnt.files.length:Int):=by rw[IntKind.wrap_i64];omega
   have hlw2:IntKind.i64.wrap (R.cnt.files.length:Int)=(R.cnt.files.length:Int):=by rw[IntKind.wrap_i64];omega
   obtain⟨i1,hti1,hy0,hy1,hy2⟩:=info_parts Tryz.info_rch
   clear hr hto3
   go_region_law ((refine step_append_lies _ (by rfl) _ _ _ (by rfl) 0 355 i1 _ 3 40 Tryz.underlying207 hti1 hy0 hy1 hy2 rfl (by omega) (.slice pc R.cnt.chs.length cc) _ _ (by rfl) (((uh HRC).alloc _).drew) ⟨W.heap.size,0,none⟩ 1 1 [.string ⟨#[]⟩,.string a,.int .i64 (R.cnt.files.length:Int)] (by rfl) (by rfl) (World.news_of_block (cs := #[.string ⟨#[]⟩,.string a,.int .i64 (R.cnt.files.length:Int)]) (t:=355) (fr:=(0,0)) (uh HNW)) (by simp[Value.oneCell']) (by omega) (by unfold maxLen;omega) (by omega) (Nat.zero_le _) (W.heap.size+1) (by simp) ?_;intro gg cp w2 hown1 hgrow hat hlt1;have hq0:w2.cell? ⟨D,2,none⟩=some (.slice pc R.cnt.chs.length cc):=(hgrow.cell_far ⟨D,2,none⟩ (by simp;omega) hneD).trans (by rw[cell_of_row _ D 2 _ _ _ ((uh HBA) _)];rfl);have hq1:w2.frozen? ⟨D,2,none⟩=false:=(hgrow.frozen_far ⟨D,2,none⟩ (by simp;omega) hneD).trans (by have hh:=(uh HBA) (.cells #[.string ⟨#[]⟩,.string a,.int .i64 (R.cnt.files.length:Int)] 355);simp only[World.frozen?,hh];rfl)))
   all_goals
    go_wp2
    go_ret
    have hA:=(uh HR0).below (w':=(W.alloc (.cells #[.string ⟨#[]⟩,.string a,.int .i64 (R.cnt.files.length:Int)] 355)).drew) (((Below.refl _ _).alloc nlr _).drew)
    have hS:=hA.snoc ⟨e0,a,R.cnt.files.length⟩ (Or.inl (by simp)) hown1 hgrow (fun k hk=>by
     have e:gg=k:=by simpa [Value.ownBlock] using hk
     subst e
     rcases hat with e | e
     ·exact Or.inl e
     ·right;simp;omega)
    exact⟨by rw[uh HE2];rfl,_,_,_,by rw[uh HE2];exact(uh HTO).trans ((RTo.below (uh HR0) (((Below.refl _ W).alloc nlr _).drew)).trans hS)⟩
end Go.Proofs.YteflnddphpjahaaGreatDoor.Rd
