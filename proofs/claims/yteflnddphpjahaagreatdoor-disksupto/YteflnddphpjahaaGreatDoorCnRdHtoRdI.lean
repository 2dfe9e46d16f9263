import Derived.Test.YteflnddphpjahaaGreatDoorCnRdFtoRdG
set_option linter.unusedVariables false
set_option linter.unusedSimpArgs false
set_option maxRecDepth 100000
set_option maxHeartbeats 16000000
namespace Go.Proofs.YteflnddphpjahaaGreatDoor.Rd
open Go.RowKit
open Sd (Tb)
open Dk (Kept own_kept)
theorem touch_remove (D:Nat) (R:Rk) (vf vs vc:Value) (i:Nat) (a t:ByteArray) (w:World) (h:RAt w D R vf vs vc) (h2:R.chs.length≤100000000) (hi:i < R.files.length) :
  Calls Tryz.prog 227 #[.pointer (some ⟨D,0,none⟩),opV 5 a t,.int .i64 (i:Int)] w (TcPost w D vf vs vc (0,{ R with chs:=R.chs++[⟨a,e0,0⟩] })):=by
 obtain⟨i0,hti,hz0,hz1,hz2⟩:=info_parts Tryz.info_rch
 have HR:=hde h
 have hb0:Below w.heap.size w (w.alloc (.cells #[.int .i64 5,.string a,.string t] 292)):=(Below.refl _ w).alloc nlr _
 have hr:=h.below hb0
 obtain⟨_,_,c2,_⟩:=hr.cells
 have fz:=hr.fz 2
 have hD:=blk_lt h.blk
 obtain⟨pc,cc,rfl,_⟩:=chs_of_own h.rc
 have hneD:some D≠(Value.slice pc R.chs.length cc).ownBlock:=fun e=>by
  obtain⟨c',hc',_⟩:=own_blk h.rc e.symm
  exact blk_ne hc' h.blk (by decide) rfl
 have HBA:=hde (fun (o:Obj)=>(show (((w.alloc (.cells #[.int .i64 5,.string a,.string t] 292)).alloc o).drew).heap[D]? = _ from (Below.heap_alloc (w.alloc (.cells #[.int .i64 5,.string a,.string t] 292)) o D (by simp;omega)).trans hr.blk))
 have HNW:Hid ((((w.alloc (.cells #[.int .i64 5,.string a,.string t] 292)).alloc (.cells #[.string a,.string ⟨#[]⟩,.int .i64 0] 355)).drew).heap[w.heap.size+1]? = some (.cells #[.string a,.string ⟨#[]⟩,.int .i64 0] 355 (0,0))):=by
  have hx:=heap_alloc_new (w.alloc (.cells #[.int .i64 5,.string a,.string t] 292)) (.cells #[.string a,.string ⟨#[]⟩,.int .i64 0] 355)
  rw[show (w.alloc (.cells #[.int .i64 5,.string a,.string t] 292)).heap.size=w.heap.size+1 by simp] at hx
  exact hx
 have HR0:=hde hr
 have HRC:=hde hr.rc
 clear h hr
 unfold opV
 go_enter Tryz.func227,Tryz.ntmps227
 go_wp2_with fail
 go_region_law ((refine step_append_lies _ (by rfl) _ _ _ (by rfl) 0 355 i0 _ 3 40 Tryz.underlying207 hti hz0 hz1 hz2 rfl (by omega) (.slice pc R.chs.length cc) _ _ (by rfl) (((uh HRC).alloc _).drew) ⟨w.heap.size+1,0,none⟩ 1 1 [.string a,.string ⟨#[]⟩,.int .i64 0] (by rfl) (by rfl) (World.news_of_block (cs := #[.string a,.string ⟨#[]⟩,.int .i64 0]) (t:=355) (fr:=(0,0)) (uh HNW)) (by simp[Value.oneCell']) (by omega) (by unfold maxLen;omega) (by omega) (by simp) (w.heap.size+2) (by simp) ?_;intro gg cp w2 hown1 hgrow hat hlt1;have hq0:w2.cell? ⟨D,2,none⟩=some (.slice pc R.chs.length cc):=(hgrow.cell_far ⟨D,2,none⟩ (by simp;omega) hneD).trans (by rw[cell_of_row _ D 2 _ _ _ ((uh HBA) _)];rfl);have hq1:w2.frozen? ⟨D,2,none⟩=false:=(hgrow.frozen_far ⟨D,2,none⟩ (by simp;omega) hneD).trans (by have hh:=(uh HBA) (.cells #[.string a,.string ⟨#[]⟩,.int .i64 0] 355);simp only[World.frozen?,hh];rfl)))
 all_goals
  go_wp2
  go_ret
  have hA:=(uh HR0).below (w':=((w.alloc (.cells #[.int .i64 5,.string a,.string t] 292)).alloc (.cells #[.string a,.string ⟨#[]⟩,.int .i64 0] 355)).drew) (((Below.refl _ _).alloc nlr _).drew)
  have hS:=hA.snoc ⟨a,e0,0⟩ (Or.inr rfl) hown1 hgrow (fun k hk=>by
   have e:gg=k:=by simpa [Value.ownBlock] using hk
   subst e
   rcases hat with e | e
   ·exact Or.inl e
   ·right;simp;omega)
  exact⟨rfl,_,_,_,(RTo.below (uh HR) (hb0.trans ((((Below.refl _ (w.alloc (.cells #[.int .i64 5,.string a,.string t] 292))).alloc nlr _).drew).mono (by simp)))).trans hS⟩
theorem touch_rename (D:Nat) (R:Rk) (vf vs vc:Value) (i:Nat) (a t:ByteArray) (w:World) (h:RAt w D R vf vs vc) (h2:R.chs.length≤100000000) (hi:i < R.files.length) (hab:¬ a=t) :
  Calls Tryz.prog 227 #[.pointer (some ⟨D,0,none⟩),opV 4 a t,.int .i64 (i:Int)] w (TcPost w D vf vs vc (0,{ R with chs:=R.chs++[⟨a,t,i⟩] })):=by
 obtain⟨i0,hti,hz0,hz1,hz2⟩:=info_parts Tryz.info_rch
 have HR:=hde h
 have hb0:Below w.heap.size w (w.alloc (.cells #[.int .i64 4,.string a,.string t] 292)):=(Below.refl _ w).alloc nlr _
 have hr:=h.below hb0
 obtain⟨_,_,c2,_⟩:=hr.cells
 have fz:=hr.fz 2
 have hD:=blk_lt h.blk
 obtain⟨pc,cc,rfl,_⟩:=chs_of_own h.rc
 have hneD:some D≠(Value.slice pc R.chs.length cc).ownBlock:=fun e=>by
  obtain⟨c',hc',_⟩:=own_blk h.rc e.symm
  exact blk_ne hc' h.blk (by decide) rfl
 have HBA:=hde (fun (o:Obj)=>(show (((w.alloc (.cells #[.int .i64 4,.string a,.string t] 292)).alloc o).drew).heap[D]? = _ from (Below.heap_alloc (w.alloc (.cells #[.int .i64 4,.string a,.string t] 292)) o D (by simp;omega)).trans hr.blk))
 have HNW:Hid ((((w.alloc (.cells #[.int .i64 4,.string a,.string t] 292)).alloc (.cells #[.string a,.string t,.int .i64 (i:Int)] 355)).drew).heap[w.heap.size+1]? = some (.cells #[.string a,.string t,.int .i64 (i:Int)] 355 (0,0))):=by
  have hx:=heap_alloc_new (w.alloc (.cells #[.int .i64 4,.string a,.string t] 292)) (.cells #[.string a,.string t,.int .i64 (i:Int)] 355)
  rw[show (w.alloc (.cells #[.int .i64 4,.string a,.string t] 292)).heap.size=w.heap.size+1 by simp] at hx
  exact hx
 have HR0:=hde hr
 have HRC:=hde hr.rc
 have g1:=str_ne hab
 clear hab
 clear h hr
 unfold opV
 go_enter Tryz.func227,Tryz.ntmps227
 go_wp2_with fail
 go_region_law ((refine step_append_lies _ (by rfl) _ _ _ (by rfl) 0 355 i0 _ 3 40 Tryz.underlying207 hti hz0 hz1 hz2 rfl (by omega) (.slice pc R.chs.length cc) _ _ (by rfl) (((uh HRC).alloc _).drew) ⟨w.heap.size+1,0,none⟩ 1 1 [.string a,.string t,.int .i64 (i:Int)] (by rfl) (by rfl) (World.news_of_block (cs := #[.string a,.string t,.int .i64 (i:Int)]) (t:=355) (fr:=(0,0)) (uh HNW)) (by simp[Value.oneCell']) (by omega) (by unfold maxLen;omega) (by omega) (by simp) (w.heap.size+2) (by simp) ?_;intro gg cp w2 hown1 hgrow hat hlt1;have hq0:w2.cell? ⟨D,2,none⟩=some (.slice pc R.chs.length cc):=(hgrow.cell_far ⟨D,2,none⟩ (by simp;omega) hneD).trans (by rw[cell_of_row _ D 2 _ _ _ ((uh HBA) _)];rfl);have hq1:w2.frozen? ⟨D,2,none⟩=false:=(hgrow.frozen_far ⟨D,2,none⟩ (by simp;omega) hneD).trans (by have hh:=(uh HBA) (.cells #[.string a,.string t,.int .i64 (i:Int)] 355);simp only[World.frozen?,hh];rfl)))
 all_goals
  go_wp2
  go_ret
  have hA:=(uh HR0).below (w':=((w.alloc (.cells #[.int .i64 4,.string a,.string t] 292)).alloc (.cells #[.string a,.string t,.int .i64 (i:Int)] 355)).drew) (((Below.refl _ _).alloc nlr _).drew)
  have hS:=hA.snoc ⟨a,t,i⟩ (Or.inl hi) hown1 hgrow (fun k hk=>by
   have e:gg=k:=by simpa [Value.ownBlock] using hk
   subst e
   rcases hat with e | e
   ·exact Or.inl e
   ·right;simp;omega)
  exact⟨rfl,_,_,_,(RTo.below (uh HR) (hb0.trans ((((Below.refl _ (w.alloc (.cells #[.int .i64 4,.string a,.string t] 292))).alloc nlr _).drew).mono (by simp)))).trans hS⟩
theorem touch_same (D:Nat) (R:Rk) (vf vs vc:Value) (i:Nat) (a:ByteArray) (w:World) (h:RAt w D R vf vs vc) :
  Calls Tryz.prog 227 #[.pointer (some ⟨D,0,none⟩),opV 4 a a,.int .i64 (i:Int)] w (TcPost w D vf vs vc (0,R)):=by
 have HR:=hde h
 have g1:(a.toList == a.toList)=true:=str_is rfl
 clear h
 unfold opV
 go_enter Tryz.func227,Tryz.ntmps227
 go_wp2
 go_ret
 exact⟨rfl,_,_,_,RTo.below (uh HR) ((Below.refl _ w).alloc nlr _)⟩
theorem rOwn_lt {w:World} {D:Nat} {R:Rk} {vf vs vc:Value} (h:RAt w D R vf vs vc) {k:Nat} (hk:rOwn D vf vs vc k):k < w.heap.size:=by
 rcases hk with rfl | e | e | e
 ·exact blk_lt h.blk
 ·obtain⟨_,hc,_⟩:=own_blk h.rf e;exact blk_lt hc
 ·obtain⟨_,hc,_⟩:=own_blk h.rs e;exact blk_lt hc
 ·obtain⟨_,hc,_⟩:=own_blk h.rc e;exact blk_lt hc
theorem cnt_files (R:Rk):R.cnt.files=R.files∧R.cnt.safe=R.safe∧R.cnt.chs=R.chs∧R.cnt.limit=R.limit:=by
 unfold Rk.cnt
 split
 ·exact⟨rfl,rfl,rfl,rfl⟩
 ·split
  ·exact⟨rfl,rfl,rfl,rfl⟩
  ·split <;> exact⟨rfl,rfl,rfl,rfl⟩
theorem cnt_fl (R:Rk) (i:Nat):R.cnt.fl i=R.fl i:=by unfold Rk.fl;rw[(cnt_files R).1]
theorem cnt_use (R:Rk) (L:Tb):R.cnt.use L=R.use L:=by unfold Rk.use;simp only[cnt_fl]
structure Rk.Fit (R:Rk):Prop where
 safe:R.safe.length≤100000000
 chs:R.chs.length≤100000000
 left : -9223372036854775808≤R.left∧R.left≤9223372036854775807
 use:R.use R.now≤1152921504606846976
 file:∀ i,(R.fl i).bytes.size≤1152921504606846976
 fn:R.files.length≤100000000
structure Cnt (w w1:World) (D:Nat) (R:Rk) (vf vs vc:Value) (k:Int) (a b:ByteArray):Prop where
 to:RTo w w1 D vf vs vc R.cnt vf vs vc
 box:w1.heap[w.heap.size]? = some (.cells #[.int .i64 k,.string a,.string b] 292 (0,0))
theorem Cnt.mk' {w w1:World} {D:Nat} {R:Rk} {vf vs vc:Value} {k:Int} {a b:ByteArray} (h:RAt w D R vf vs vc) (h1:RTo (w.alloc (.cells #[.int .i64 k,.string a,.string b] 292)) w1 D vf vs vc R.cnt vf vs vc):Cnt w w1 D R vf vs vc k a b :=
 ⟨(RTo.below h ((Below.refl _ w).alloc nlr _)).trans h1,(h1.kept.block w.heap.size (by simp) (fun hk=>by have:=rOwn_lt h hk;omega)).trans (heap_alloc_new w _)⟩
theorem Cnt.cells {w w1:World} {D:Nat} {R:Rk} {vf vs vc:Value} {k:Int} {a b:ByteArray} (h:Cnt w w1 D R vf vs vc k a b) {w2:World} (hb:Below w1.heap.size w1 w2):w2.cell? ⟨w.heap.size,0,none⟩=some (.int .i64 k)∧w2.cell? ⟨w.heap.size,1,none⟩=some (.string a)∧w2.cell? ⟨w.heap.size,2,none⟩=some (.string b):=by
 have hx:=(hb.block w.heap.size (blk_lt h.box)).trans h.box
 refine⟨?_,?_,?_⟩ <;> (rw[cell_of_row w2 _ _ _ _ _ hx];rfl)
theorem does_down (D:Nat) (R:Rk) (vf vs vc:Value) (k:Int) (a b:ByteArray) (w:World) (h:RAt w D R vf vs vc) (hf:R.Fit) (hup:R.up=false) :
  Calls Tryz.prog 144 #[.pointer (some ⟨D,0,none⟩),opV k a b] w (TcPost w D vf vs vc (9,R.cnt)):=by
 have hc:=fun o=>counts_any D R vf vs vc (w.alloc o) (h.below ((Below.refl _ w).alloc nlr o)) hf.left
 rw[hup] at hc
 have HR:=hde h
 clear h hf hup
 unfold opV
 go_enter Tryz.func144,Tryz.ntmps144
 go_wp2_with fail
 refine(hc _).mono ?_
 rintro e w1 ⟨rfl,h1,_⟩
 have HC:=hde (Cnt.mk' (uh HR) h1)
 clear h1 hc
 go_wp2
 go_ret
 exact⟨rfl,_,_,_,(uh HC).to⟩
theorem does_syncDir (D:Nat) (R:Rk) (vf vs vc:Value) (a b:ByteArray) (w:World) (h:RAt w D R vf vs vc) (hf:R.Fit) (hup:R.up=true) :
  Calls Tryz.prog 144 #[.pointer (some ⟨D,0,none⟩),opV 6 a b] w (TcPost w D vf vs vc (0,{ R.cnt with safe:=R.now,chs:=[] })):=by
 have hc:=fun o=>counts_any D R vf vs vc (w.alloc o) (h.below ((Below.refl _ w).alloc nlr o)) hf.left
 rw[hup] at hc
 have HR:=hde h
 have HF:=hde hf
 clear h hf hup
 unfold opV
 go_enter Tryz.func144,Tryz.ntmps144
 go_wp2_with fail
 refine(hc _).mono ?_
 rintro e w1 ⟨rfl,h1,_⟩
 have hC:=Cnt.mk' (uh HR) h1
 obtain⟨x0,x1,x2⟩:=hC.cells (Below.refl _ _)
 have HC:=hde hC
 clear h1 hc hC
 have s1:R.cnt.safe.length≤100000000:=by rw[(cnt_files R).2.1];exact(uh HF).safe
 have s2:R.cnt.chs.length≤100000000:=by rw[(cnt_files R).2.2.1];exact(uh HF).chs
 go_wp2_with fail
 refine(find_any D R.cnt vf vs vc a w1 (uh HC).to.at' s1 s2).mono ?_
 rintro e w2 ⟨rfl,hb2⟩
 obtain⟨y0,y1,y2⟩:=(uh HC).cells hb2
 have HR2:=hde ((uh HC).to.at'.below hb2)
 have HB2:=hde hb2
 clear hb2 x0 x1 x2
 go_wp2_with fail
 refine(now_any D R.cnt vf vs vc w2 (uh HR2) s1 s2).mono ?_
 rintro e w3 ⟨v3,rfl,ho3,hb3⟩
 have hr3:=(uh HR2).below hb3
 obtain⟨p3,cap3,rfl,_⟩:=ents_of_own ho3
 obtain⟨_,d1,d2,_⟩:=hr3.cells
 have z1:=hr3.fz 1
 have z2:=hr3.fz 2
 have HR3:=hde hr3
 have HO3:=hde ho3
 have HS3:=hde hb3
 clear hr3 ho3 hb3
 go_wp2
 go_ret
 have hr:=uh HR3
 have hb3:=uh HS3
 have ho3:=uh HO3
 generalize hv3:Value.slice p3 R.cnt.now.length cap3=v3 at ho3 ⊢
 have hb:=heap_setCell_same w3 D 1 _ _ v3 hr.blk
 have hb':=heap_setCell_same _ D 2 _ _ (.slice none 0 0) hb
 have hD:=blk_lt hr.blk
 have hok:({ R.cnt with safe:=R.now,chs:=[] }:Rk).Ok:=by
  have ok:=hr.ok
  have e:=cnt_now R
  refine⟨?_,?_,?_,fun c hc=>(by cases hc),ok.cut⟩
  ·show keyed R.now;rw[← e];exact ok.dir_keyed _
  ·show ∀ p ∈ R.now,_;rw[← e];exact ok.dir_some _
  ·show ∀ p ∈ R.now,_;rw[← e];exact ok.dir_file _
 have ne:∀ {e n s B:Nat} {v:Value} {xs:List Value},w3.ownsRow B e s v n xs→e≠209→((w3.setCell ⟨D,1,none⟩ v3).setCell ⟨D,2,none⟩ (.slice none 0 0)).ownsRow B e s v n xs:=fun {e n s B v xs} ho hne=>by
  refine ownsRow_setCell_other (ownsRow_setCell_other ho (fun e2=>?_) _) (fun e2=>?_) _ <;> (obtain⟨x,hx,_⟩:=own_blk ho e2;exact blk_ne hx hr.blk hne rfl)
 rw[cnt_now] at ho3
 have hto:RTo w2 ((w3.setCell ⟨D,1,none⟩ v3).setCell ⟨D,2,none⟩ (.slice none 0 0)) D vf vs vc { R.cnt with safe:=R.now,chs:=[] } vf v3 (.slice none 0 0):=by
  refine⟨⟨hb',ne hr.rf (by decide),own_le (ne ho3 (by decide)) (Nat.zero_le _),World.ownsRow_nil _ _ _ _,hok⟩,((Kept.below hb3 _).setCell (fun hk=>hk (Or.inl rfl)) _).setCell (fun hk=>hk (Or.inl rfl)) _,fun k hk=>?_⟩
  rcases hk with e | e | e | e
  ·exact Or.inl (Or.inl e)
  ·exact Or.inl (Or.inr (Or.inl e))
  ·obtain⟨_,_,hge⟩:=own_blk ho3 e;exact Or.inr hge
  ·simp[Value.ownBlock] at e
 exact⟨rfl,_,_,_,(uh HC).to.trans ((RTo.below (uh HC).to.at' (uh HB2)).trans hto)⟩
theorem does_none (D:Nat) (R:Rk) (vf vs vc:Value) (k:Int) (a b:ByteArray) (w:World) (h:RAt w D R vf vs vc) (hf:R.Fit) (hup:R.up=true) (hk:k=2∨k=3∨k=5) (hg:rget R.now a=none) :
  Calls Tryz.prog 144 #[.pointer (some ⟨D,0,none⟩),opV k a b] w (TcPost w D vf vs vc (11,R.cnt)):=by
 have hc:=fun o=>counts_any D R vf vs vc (w.alloc o) (h.below ((Below.refl _ w).alloc nlr o)) hf.left
 rw[hup] at hc
 have HR:=hde h
 have HF:=hde hf
 have HG:Hid (optN (rget R.cnt.now a) = -1):=by show _=_;rw[cnt_now,hg];rfl
 have k1:(k == 1)=false:=beq_eq_false_iff_ne.2 (by omega)
 have k6:(k == 6)=false:=beq_eq_false_iff_ne.2 (by omega)
 have k4:(k == 4)=false:=beq_eq_false_iff_ne.2 (by omega)
 clear h hf hup hg hk
 unfold opV
 go_enter Tryz.func144,Tryz.ntmps144
 go_wp2_with fail
 refine(hc _).mono ?_
 rintro e w1 ⟨rfl,h1,_⟩
 have hC:=Cnt.mk' (uh HR) h1
 obtain⟨x0,x1,x2⟩:=hC.cells (Below.refl _ _)
 have HC:=hde hC
 clear h1 hc hC
 have s1:R.cnt.safe.length≤100000000:=by rw[(cnt_files R).2.1];exact(uh HF).safe
 have s2:R.cnt.chs.length≤100000000:=by rw[(cnt_files R).2.2.1];exact(uh HF).chs
 go_wp2_with fail
 refine(find_any D R.cnt vf vs vc a w1 (uh HC).to.at' s1 s2).mono ?_
 rintro e w2 ⟨rfl,hb2⟩
 rw[uh HG]
 obtain⟨y0,y1,y2⟩:=(uh HC).cells hb2
 have HB2:=hde hb2
 clear hb2 x0 x1 x2
 go_wp2
 go_ret
 exact⟨rfl,_,_,_,(uh HC).to.trans (RTo.below (uh HC).to.at' (uh HB2))⟩
theorem does_on (D:Nat) (R:Rk) (vf vs vc:Value) (k:Int) (i:Nat) (a b:ByteArray) (r:Int × Rk) (w:World) (h:RAt w D R vf vs vc) (hf:R.Fit) (hup:R.up=true) (hk:k=2∨k=3∨k=5) (hg:rget R.now a=some i)
  (ht:∀ W,RAt W D R.cnt vf vs vc→Calls Tryz.prog 227 #[.pointer (some ⟨D,0,none⟩),opV k a b,.int .i64 (i:Int)] W (TcPost W D vf vs vc r)) :
  Calls Tryz.prog 144 #[.pointer (some ⟨D,0,none⟩),opV k a b] w (TcPost w D vf vs vc r):=by
 have hc:=fun o=>counts_any D R vf vs vc (w.alloc o) (h.below ((Below.refl _ w).alloc nlr o)) hf.left
 rw[hup] at hc
 have HR:=hde h
 have HF:=hde hf
 have HT:=hde ht
 have HG:Hid (optN (rget R.cnt.now a)=(i:Int)):=by show _=_;rw[cnt_now,hg];rfl
 have k1:(k == 1)=false:=beq_eq_false_iff_ne.2 (by omega)
 have k6:(k == 6)=false:=beq_eq_false_iff_ne.2 (by omega)
 have k4:(k == 4)=false:=beq_eq_false_iff_ne.2 (by omega)
 have hi0:¬ (i:Int) < 0:=by omega
 clear h hf hup hg hk ht
 unfold opV
 go_enter Tryz.func144,Tryz.ntmps144
 go_wp2_with fail
 refine(hc _).mono ?_
 rintro e w1 ⟨rfl,h1,_⟩
 have hC:=Cnt.mk' (uh HR) h1
 obtain⟨x0,x1,x2⟩:=hC.cells (Below.refl _ _)
 have HC:=hde hC
 clear h1 hc hC
 have s1:R.cnt.safe.length≤100000000:=by rw[(cnt_files R).2.1];exact(uh HF).safe
 have s2:R.cnt.chs.length≤100000000:=by rw[(cnt_files R).2.2.1];exact(uh HF).chs
 go_wp2_with fail
 refine(find_any D R.cnt vf vs vc a w1 (uh HC).to.at' s1 s2).mono ?_
 rintro e w2 ⟨rfl,hb2⟩
 rw[uh HG]
 obtain⟨y0,y1,y2⟩:=(uh HC).cells hb2
 have hTT:=(uh HT) w2 ((uh HC).to.at'.below hb2)
 unfold opV at hTT
 have HB2:=hde hb2
 clear hb2 x0 x1 x2
 go_wp2_with fail
 refine hTT.mono ?_
 rintro e w3 ⟨rfl,vf',vs',vc',h3⟩
 have H3:=hde h3
 clear h3 hTT
 go_wp2
 go_ret
 exact⟨rfl,_,_,_,(uh HC).to.trans ((RTo.below (uh HC).to.at' (uh HB2)).trans (uh H3))⟩
theorem does_rename (D:Nat) (R:Rk) (vf vs vc:Value) (a b:ByteArray) (w:World) (h:RAt w D R vf vs vc) (hf:R.Fit) :
  Calls Tryz.prog 144 #[.pointer (some ⟨D,0,none⟩),opV 4 a b] w (TcPost w D vf vs vc (R.rename a b)):=by
 cases hup:R.up with
 | false =>
  have e:R.rename a b=(9,R.cnt):=by unfold Rk.rename Rk.on;rw[hup];simp
  rw[e]
  exact does_down D R vf vs vc 4 a b w h hf hup
 | true =>
  have hc:=fun o=>counts_any D R vf vs vc (w.alloc o) (h.below ((Below.refl _ w).alloc nlr o)) hf.left
  rw[hup] at hc
  have HR:=hde h
  have HF:=hde hf
  have HUP:=hde hup
  clear h hf hup
  unfold opV
  go_enter Tryz.func144,Tryz.ntmps144
  go_wp2_with fail
  refine(hc _).mono ?_
  rintro e w1 ⟨rfl,h1,_⟩
  have hC:=Cnt.mk' (uh HR) h1
  obtain⟨x0,x1,x2⟩:=hC.cells (Below.refl _ _)
  have HC:=hde hC
  clear h1 hc hC
  have s1:R.cnt.safe.length≤100000000:=by rw[(cnt_files R).2.1];exact(uh HF).safe
  have s2:R.cnt.chs.length≤100000000:=by rw[(cnt_files R).2.2.1];exact(uh HF).chs
  go_wp2_with fail
  refine(find_any D R.cnt vf vs vc a w1 (uh HC).to.at' s1 s2).mono ?_
  rintro e w2 ⟨rfl,hb2⟩
  obtain⟨y0,y1,y2⟩:=(uh HC).cells hb2
  have HB2:=hde hb2
  clear hb2 x0 x1 x2
  go_wp2_with fail
  refine(fileName_any b w2).mono ?_
  rintro e w3 ⟨rfl,hw3⟩
  obtain rfl:=hw3.symm
  have HT2:=hde ((uh HC).to.trans (RTo.below (uh HC).to.at' (uh HB2)))
  cases hn:fnm b with
  | false =>
   have HE:Hid (R.rename a b=(10,R.cnt)):=by show _=_;unfold Rk.rename;rw[if_pos ⟨uh HUP,hn⟩]
   clear hn
   go_wp2
   go_ret
   exact⟨by rw[uh HE];rfl,_,_,_,by rw[uh HE];exact uh HT2⟩
  | true =>
   have he:R.rename a b=R.on a fun Q i=>(0,if a=b then Q else { Q with chs:=Q.chs++[⟨a,b,i⟩] }):=by unfold Rk.rename;rw[if_neg (by rw[hn];simp)]
   unfold Rk.on at he
   rw[if_neg (by rw[uh HUP];decide)] at he
   cases hg:rget R.now a with
   | none =>
    rw[hg] at he
    have HE:=hde he
    have HG:Hid (optN (rget R.cnt.now a) = -1):=by show _=_;rw[cnt_now,hg];rfl
    clear hn he hg
    rw[uh HG]
    go_wp2
    go_ret
    exact⟨by rw[uh HE];rfl,_,_,_,by rw[uh HE];exact uh HT2⟩
   | some i =>
    rw[hg] at he
    have HE:=hde he
    have HG:Hid (optN (rget R.cnt.now a)=(i:Int)):=by show _=_;rw[cnt_now,hg];rfl
    have hif:i < R.cnt.files.length:=by rw[(cnt_files R).1];exact(uh HR).ok.dir_file _ (a,i) ((rget_mem ((uh HR).ok.dir_keyed _)).1 hg)
    have hi0:¬ (i:Int) < 0:=by omega
    have hTT:Calls Tryz.prog 227 #[.pointer (some ⟨D,0,none⟩),opV 4 a b,.int .i64 (i:Int)] w2 (TcPost w2 D vf vs vc (R.rename a b)):=by
     rw[he]
     by_cases hab:a=b
     ·subst hab
      simp only[if_true]
      exact touch_same D R.cnt vf vs vc i a w2 (uh HT2).at'
     ·simp only[if_neg hab]
      exact touch_rename D R.cnt vf vs vc i a b w2 (uh HT2).at' s2 hif hab
    unfold opV at hTT
    clear hn he hg
    rw[uh HG]
    go_wp2_with fail
    refine hTT.mono ?_
    rintro e w4 ⟨rfl,vf',vs',vc',h4⟩
    have H4:=hde h4
    clear h4 hTT
    go_wp2
    go_ret
    exact⟨rfl,_,_,_,(uh HT2).trans (uh H4)⟩
end Go.Proofs.YteflnddphpjahaaGreatDoor.Rd
