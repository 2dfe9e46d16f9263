import Derived.Test.YteflnddphpjahaaGreatDoorCnPkAtoRdC
import Derived.Test.YteflnddphpjahaaGreatDoorCnRdD
set_option linter.unusedVariables false
set_option linter.unusedSimpArgs false
set_option maxRecDepth 100000
set_option maxHeartbeats 16000000
namespace Go.Proofs.YteflnddphpjahaaGreatDoor.Pk
open Go.RowKit
open Sd (Tb)
open Dk (Kept own_kept TabIn TabNew tbCells fptr optPtr)
theorem clone_any (p:ByteArray) (w:World) (hp:p.size≤140737488355328):Calls Tryz.prog 212 #[.string p] w fun e w'=>e = .returned (.string p)∧Below w.heap.size w w':=by
 go_enter Tryz.func212,Tryz.ntmps212
 go_wp2_with fail
 refine(Tryz.stringslite_Clone p _ (by omega)).mono ?_
 rintro e w1 ⟨rfl,hb1⟩
 go_wp2
 go_ret
 exact⟨rfl,hb1⟩
theorem nameByte_any (c:Nat) (w:World):Calls Tryz.prog 327 #[.int .u8 c] w fun e w'=>e = .returned (.bool (Rd.nmB c))∧w'=w:=by
 by_cases h1:97≤c
 ·by_cases h2:c≤122
  ·have x:=h1
   have HN:Hid (Rd.nmB c=true):=by show _=_;unfold Rd.nmB;simp;omega
   have r0:(97:Int)≤c:=by omega
   have r1:(c:Int)≤122:=by omega
   go_enter Tryz.func327,Tryz.ntmps327
   go_wp2
   go_ret
   exact⟨by rw[uh HN];rfl,rfl⟩
  ·have x:=h1
   have HN:Hid (Rd.nmB c=false):=by show _=_;unfold Rd.nmB;simp;omega
   have r0:(97:Int)≤c:=by omega
   have r1:¬ (c:Int)≤122:=by omega
   have r2:(48:Int)≤c:=by omega
   have r3:¬ (c:Int)≤57:=by omega
   have r4:((c:Int) == 46)=false:=beq_eq_false_iff_ne.2 (by omega)
   go_enter Tryz.func327,Tryz.ntmps327
   go_wp2
   go_ret
   exact⟨by rw[uh HN];rfl,rfl⟩
 ·by_cases h2:48≤c
  ·by_cases h3:c≤57
   ·have x:=h1
    have HN:Hid (Rd.nmB c=true):=by show _=_;unfold Rd.nmB;simp;omega
    have r0:¬ (97:Int)≤c:=by omega
    have r1:(48:Int)≤c:=by omega
    have r2:(c:Int)≤57:=by omega
    go_enter Tryz.func327,Tryz.ntmps327
    go_wp2
    go_ret
    exact⟨by rw[uh HN];rfl,rfl⟩
   ·have x:=h1
    have HN:Hid (Rd.nmB c=false):=by show _=_;unfold Rd.nmB;simp;omega
    have r0:¬ (97:Int)≤c:=by omega
    have r1:(48:Int)≤c:=by omega
    have r2:¬ (c:Int)≤57:=by omega
    have r3:((c:Int) == 46)=false:=beq_eq_false_iff_ne.2 (by omega)
    go_enter Tryz.func327,Tryz.ntmps327
    go_wp2
    go_ret
    exact⟨by rw[uh HN];rfl,rfl⟩
  ·by_cases h3:c=46
   ·have HN:Hid (Rd.nmB c=true):=by show _=_;subst h3;rfl
    subst h3
    go_enter Tryz.func327,Tryz.ntmps327
    go_wp2
    go_ret
    exact⟨rfl,rfl⟩
   ·have x:=h1
    have HN:Hid (Rd.nmB c=false):=by show _=_;unfold Rd.nmB;simp;omega
    have r0:¬ (97:Int)≤c:=by omega
    have r1:¬ (48:Int)≤c:=by omega
    have r2:((c:Int) == 46)=false:=beq_eq_false_iff_ne.2 (by omega)
    go_enter Tryz.func327,Tryz.ntmps327
    go_wp2
    go_ret
    exact⟨by rw[uh HN];rfl,rfl⟩
theorem isName_any (s:ByteArray) (w:World):Calls Tryz.prog 285 #[.string s] w fun e w'=>e = .returned (.bool (Rd.fnm s))∧w'=w:=by
 by_cases h0:s=Rd.e0
 ·have g0:=Rd.e0_is h0
  have HN:Hid (Rd.fnm s=false):=by show _=_;subst h0;rfl
  clear h0
  go_enter Tryz.func285,Tryz.ntmps285
  go_wp2
  go_ret
  exact⟨by rw[uh HN];rfl,rfl⟩
 ·have g0:=Rd.e0_ne h0
  have h1:1≤s.size:=by
   rcases Nat.eq_zero_or_pos s.size with e | e
   ·exact absurd (ByteArray.ext (Array.eq_empty_of_size_eq_zero e)) h0
   ·exact e
  clear h0
  by_cases h12:s.size≤12
  ·have HF:Hid (Rd.fnm s=s.data.toList.all fun b=>Rd.nmB b.toNat):=by show _=_;unfold Rd.fnm;rw[decide_eq_true h1,decide_eq_true h12];rfl
   have y2:¬ (s.size:Int) > 12:=by omega
   go_enter Tryz.func285,Tryz.ntmps285
   go_wp2
   go_loopw [13] (fun ii wr=>∃ k:Nat,k≤s.size∧ii = .int .i64 k∧wr=w∧Hid (∀ j,j < k→Rd.nmB (Sp.bt s j)=true)) (fun ii _=>s.size - (intOf ii).toNat)
   case atStart=>exact⟨0,Nat.zero_le _,rfl,rfl,fun j hj=>by omega⟩
   case round =>
    obtain⟨k,hk,rfl,rfl,HA⟩:=hrel
    by_cases hlt:k < s.size
    ·have hb:=Sp.bt_of s k hlt
     obtain⟨b,hB⟩:∃ b,Sp.bt s k=b:=⟨_,rfl⟩
     rw[hB] at hb
     have HB:=hde hB
     clear hB
     cases hn:Rd.nmB b with
     | true =>
      have HN:=hde hn
      have hnb:Calls Tryz.prog 327 #[.int .u8 b] wr fun e w'=>e = .returned (.bool true)∧w'=wr:=by have:=nameByte_any b wr;rw[hn] at this;exact this
      clear hn
      go_wp2_with (go_at_call 327;refine hnb.mono ?_;rintro e w' ⟨rfl,hw⟩;obtain rfl:=hw.symm)
      go_roundw
      case rel=>exact⟨k+1,by omega,by go_num,by first | rfl | trivial,fun j hj=>by
       rcases Nat.lt_or_eq_of_le (Nat.le_of_lt_succ hj) with h | h
       ·exact(uh HA) j h
       ·subst h;rw[uh HB];exact uh HN⟩
      case measure=>simp[intOf];omega
     | false =>
      have HNO:Hid (Rd.fnm s=false):=by
       show _=_
       rw[uh HF]
       apply Bool.eq_false_iff.2
       intro hh
       have h1:=List.all_eq_true.1 hh (s[k]'hlt) (by rw[show s[k]'hlt=s.data.toList[k]'(by rw[Array.length_toList];exact hlt) from rfl];exact List.getElem_mem _)
       rw[hb,hn] at h1
       cases h1
      have hnb:Calls Tryz.prog 327 #[.int .u8 b] wr fun e w'=>e = .returned (.bool false)∧w'=wr:=by have:=nameByte_any b wr;rw[hn] at this;exact this
      clear hn
      go_wp2_with (go_at_call 327;refine hnb.mono ?_;rintro e w' ⟨rfl,hw⟩;obtain rfl:=hw.symm)
      go_ret
      exact⟨by rw[uh HNO];rfl,rfl⟩
    ·obtain rfl:k=s.size:=by omega
     have HYES:Hid (Rd.fnm s=true):=by
      show _=_
      rw[uh HF,List.all_eq_true]
      intro x hx
      obtain⟨j,hj,rfl⟩:=List.mem_iff_getElem.1 hx
      have hj':j < s.size:=by rw[Array.length_toList] at hj;exact hj
      have:=(uh HA) j hj'
      rw[← Sp.bt_of s j hj'] at this
      exact this
     go_wp2
     go_ret
     exact⟨by rw[uh HYES];rfl,rfl⟩
  ·have HNO:Hid (Rd.fnm s=false):=by
    show _=_
    unfold Rd.fnm
    rw[decide_eq_false h12];simp
   have y2:(s.size:Int) > 12:=by omega
   go_enter Tryz.func285,Tryz.ntmps285
   go_wp2
   go_ret
   exact⟨by rw[uh HNO];rfl,rfl⟩
theorem created_any (s:ByteArray) (w:World) (hs:s.size≤1048576):Calls Tryz.prog 287 #[.string s] w fun e w'=>∃ f,e = .returned (.agg #[.string ⟨#[]⟩,.string s,fptr f])∧Below w.heap.size w w'∧w.heap.size≤f∧w'.heap[f]? = some (.cells #[.slice none 0 0,.int .i64 0] 364 (0,0)):=by
 go_enter Tryz.func287,Tryz.ntmps287
 go_wp2_with fail
 refine(clone_any s _ (by omega)).mono ?_
 rintro e w1 ⟨rfl,hb⟩
 have hz:=hb.size
 have hrb:w1.heap[w.heap.size]? = some (.cells #[.string ⟨#[]⟩,.string ⟨#[]⟩,.pointer none] 391 (0,0)):=(hb.block w.heap.size (by simp)).trans (heap_alloc_new w _)
 have c0:w1.cell? ⟨w.heap.size,0,none⟩=some (.string ⟨#[]⟩):=by rw[cell_of_row w1 _ 0 _ _ _ hrb];rfl
 have c1:w1.cell? ⟨w.heap.size,1,none⟩=some (.string ⟨#[]⟩):=by rw[cell_of_row w1 _ 1 _ _ _ hrb];rfl
 have c2:w1.cell? ⟨w.heap.size,2,none⟩=some (.pointer none):=by rw[cell_of_row w1 _ 2 _ _ _ hrb];rfl
 have f0:w1.frozen? ⟨w.heap.size,0,none⟩=false:=by simp[World.frozen?,hrb]
 have f1:w1.frozen? ⟨w.heap.size,1,none⟩=false:=by simp[World.frozen?,hrb]
 have f2:w1.frozen? ⟨w.heap.size,2,none⟩=false:=by simp[World.frozen?,hrb]
 have hsz:w.heap.size < w1.heap.size:=by simp at hz;omega
 go_wp2
 have hp3:((((w1.setCell ⟨w.heap.size,0,none⟩ (.string ⟨#[]⟩)).setCell ⟨w.heap.size,1,none⟩ (.string s)).setCell ⟨w.heap.size,2,none⟩ (.pointer (some ⟨w1.heap.size,0,none⟩))).alloc (.cells #[.slice none 0 0,.int .i64 0] 364)).heap[w.heap.size]? = some (.cells #[.string ⟨#[]⟩,.string s,.pointer (some ⟨w1.heap.size,0,none⟩)] 391 (0,0)):=by
  rw[Below.heap_alloc _ _ _ (by simpa using hsz)]
  have h1:=heap_setCell_same w1 w.heap.size 0 _ _ (.string ⟨#[]⟩) hrb
  have h2:=heap_setCell_same _ w.heap.size 1 _ _ (.string s) h1
  have h3:=heap_setCell_same _ w.heap.size 2 _ _ (.pointer (some ⟨w1.heap.size,0,none⟩)) h2
  exact h3
 have hb3:Below w.heap.size w ((((w1.setCell ⟨w.heap.size,0,none⟩ (.string ⟨#[]⟩)).setCell ⟨w.heap.size,1,none⟩ (.string s)).setCell ⟨w.heap.size,2,none⟩ (.pointer (some ⟨w1.heap.size,0,none⟩))).alloc (.cells #[.slice none 0 0,.int .i64 0] 364)):=
  ((((((Below.refl _ w).alloc nlr _).trans (hb.mono (by simp))).setCell nlr _).setCell nlr _).setCell nlr _).alloc (by simp;omega) _
 have hf3:((((w1.setCell ⟨w.heap.size,0,none⟩ (.string ⟨#[]⟩)).setCell ⟨w.heap.size,1,none⟩ (.string s)).setCell ⟨w.heap.size,2,none⟩ (.pointer (some ⟨w1.heap.size,0,none⟩))).alloc (.cells #[.slice none 0 0,.int .i64 0] 364)).heap[w1.heap.size]? = some (.cells #[.slice none 0 0,.int .i64 0] 364 (0,0)):=by
  have h:=heap_alloc_new (((w1.setCell ⟨w.heap.size,0,none⟩ (.string ⟨#[]⟩)).setCell ⟨w.heap.size,1,none⟩ (.string s)).setCell ⟨w.heap.size,2,none⟩ (.pointer (some ⟨w1.heap.size,0,none⟩))) (.cells #[.slice none 0 0,.int .i64 0] 364)
  simpa using h
 generalize ((((w1.setCell ⟨w.heap.size,0,none⟩ (.string ⟨#[]⟩)).setCell ⟨w.heap.size,1,none⟩ (.string s)).setCell ⟨w.heap.size,2,none⟩ (.pointer (some ⟨w1.heap.size,0,none⟩))).alloc (.cells #[.slice none 0 0,.int .i64 0] 364))=W at hp3 hb3 hf3 ⊢
 have m0:W.cell? ⟨w.heap.size,0,none⟩=some (.string ⟨#[]⟩):=by rw[cell_of_row W _ 0 _ _ _ hp3];rfl
 have m1:W.cell? ⟨w.heap.size,1,none⟩=some (.string s):=by rw[cell_of_row W _ 1 _ _ _ hp3];rfl
 have m2:W.cell? ⟨w.heap.size,2,none⟩=some (.pointer (some ⟨w1.heap.size,0,none⟩)):=by rw[cell_of_row W _ 2 _ _ _ hp3];rfl
 exact bodyPost_ret (v := .agg #[.string ⟨#[]⟩,.string s,fptr w1.heap.size]) (by simp[results,Tryz.results287,go_sem,m0,m1,m2,fptr]) rfl ⟨w1.heap.size,rfl,hb3,by omega,hf3⟩
theorem removed_any (s:ByteArray) (w:World) (hs:s.size≤1048576):Calls Tryz.prog 290 #[.string s] w fun e w'=>e = .returned (.agg #[.string s,.string ⟨#[]⟩,.pointer none])∧Below w.heap.size w w':=by
 go_enter Tryz.func290,Tryz.ntmps290
 go_wp2_with fail
 refine(clone_any s _ (by omega)).mono ?_
 rintro e w1 ⟨rfl,hb⟩
 have hz:=hb.size
 have hrb:w1.heap[w.heap.size]? = some (.cells #[.string ⟨#[]⟩,.string ⟨#[]⟩,.pointer none] 391 (0,0)):=(hb.block w.heap.size (by simp)).trans (heap_alloc_new w _)
 have c0:w1.cell? ⟨w.heap.size,0,none⟩=some (.string ⟨#[]⟩):=by rw[cell_of_row w1 _ 0 _ _ _ hrb];rfl
 have c1:w1.cell? ⟨w.heap.size,1,none⟩=some (.string ⟨#[]⟩):=by rw[cell_of_row w1 _ 1 _ _ _ hrb];rfl
 have c2:w1.cell? ⟨w.heap.size,2,none⟩=some (.pointer none):=by rw[cell_of_row w1 _ 2 _ _ _ hrb];rfl
 have f0:w1.frozen? ⟨w.heap.size,0,none⟩=false:=by simp[World.frozen?,hrb]
 have f1:w1.frozen? ⟨w.heap.size,1,none⟩=false:=by simp[World.frozen?,hrb]
 have f2:w1.frozen? ⟨w.heap.size,2,none⟩=false:=by simp[World.frozen?,hrb]
 have hsz:w.heap.size < w1.heap.size:=by simp at hz;omega
 go_wp2
 have hp3:(((w1.setCell ⟨w.heap.size,0,none⟩ (.string s)).setCell ⟨w.heap.size,1,none⟩ (.string ⟨#[]⟩)).setCell ⟨w.heap.size,2,none⟩ (.pointer none)).heap[w.heap.size]? = some (.cells #[.string s,.string ⟨#[]⟩,.pointer none] 391 (0,0)):=by
  have h1:=heap_setCell_same w1 w.heap.size 0 _ _ (.string s) hrb
  have h2:=heap_setCell_same _ w.heap.size 1 _ _ (.string ⟨#[]⟩) h1
  have h3:=heap_setCell_same _ w.heap.size 2 _ _ (.pointer none) h2
  exact h3
 have hb3:Below w.heap.size w (((w1.setCell ⟨w.heap.size,0,none⟩ (.string s)).setCell ⟨w.heap.size,1,none⟩ (.string ⟨#[]⟩)).setCell ⟨w.heap.size,2,none⟩ (.pointer none)):=
  (((((Below.refl _ w).alloc nlr _).trans (hb.mono (by simp))).setCell nlr _).setCell nlr _).setCell nlr _
 generalize (((w1.setCell ⟨w.heap.size,0,none⟩ (.string s)).setCell ⟨w.heap.size,1,none⟩ (.string ⟨#[]⟩)).setCell ⟨w.heap.size,2,none⟩ (.pointer none))=W at hp3 hb3 ⊢
 have m0:W.cell? ⟨w.heap.size,0,none⟩=some (.string s):=by rw[cell_of_row W _ 0 _ _ _ hp3];rfl
 have m1:W.cell? ⟨w.heap.size,1,none⟩=some (.string ⟨#[]⟩):=by rw[cell_of_row W _ 1 _ _ _ hp3];rfl
 have m2:W.cell? ⟨w.heap.size,2,none⟩=some (.pointer none):=by rw[cell_of_row W _ 2 _ _ _ hp3];rfl
 exact bodyPost_ret (v := .agg #[.string s,.string ⟨#[]⟩,.pointer none]) (by simp[results,Tryz.results290,go_sem,m0,m1,m2]) rfl ⟨rfl,hb3⟩
theorem renamed_any (s t:ByteArray) (f:Nat) (w:World) (hs:s.size≤1048576) (ht:t.size≤1048576):Calls Tryz.prog 289 #[.string s,.string t,fptr f] w fun e w'=>e = .returned (.agg #[.string s,.string t,fptr f])∧Below w.heap.size w w':=by
 unfold fptr
 go_enter Tryz.func289,Tryz.ntmps289
 go_wp2_with fail
 refine(clone_any s _ (by omega)).mono ?_
 rintro e w0 ⟨rfl,hb0⟩
 go_wp2_with fail
 refine(clone_any t _ (by omega)).mono ?_
 rintro e w1 ⟨rfl,hb1⟩
 have hb:=hb0.trans (hb1.mono hb0.size)
 clear hb0 hb1
 have hz:=hb.size
 have hrb:w1.heap[w.heap.size]? = some (.cells #[.string ⟨#[]⟩,.string ⟨#[]⟩,.pointer none] 391 (0,0)):=(hb.block w.heap.size (by simp)).trans (heap_alloc_new w _)
 have c0:w1.cell? ⟨w.heap.size,0,none⟩=some (.string ⟨#[]⟩):=by rw[cell_of_row w1 _ 0 _ _ _ hrb];rfl
 have c1:w1.cell? ⟨w.heap.size,1,none⟩=some (.string ⟨#[]⟩):=by rw[cell_of_row w1 _ 1 _ _ _ hrb];rfl
 have c2:w1.cell? ⟨w.heap.size,2,none⟩=some (.pointer none):=by rw[cell_of_row w1 _ 2 _ _ _ hrb];rfl
 have f0:w1.frozen? ⟨w.heap.size,0,none⟩=false:=by simp[World.frozen?,hrb]
 have f1:w1.frozen? ⟨w.heap.size,1,none⟩=false:=by simp[World.frozen?,hrb]
 have f2:w1.frozen? ⟨w.heap.size,2,none⟩=false:=by simp[World.frozen?,hrb]
 have hsz:w.heap.size < w1.heap.size:=by simp at hz;omega
 go_wp2
 have hp3:(((w1.setCell ⟨w.heap.size,0,none⟩ (.string s)).setCell ⟨w.heap.size,1,none⟩ (.string t)).setCell ⟨w.heap.size,2,none⟩ (.pointer (some ⟨f,0,none⟩))).heap[w.heap.size]? = some (.cells #[.string s,.string t,.pointer (some ⟨f,0,none⟩)] 391 (0,0)):=by
  have h1:=heap_setCell_same w1 w.heap.size 0 _ _ (.string s) hrb
  have h2:=heap_setCell_same _ w.heap.size 1 _ _ (.string t) h1
  have h3:=heap_setCell_same _ w.heap.size 2 _ _ (.pointer (some ⟨f,0,none⟩)) h2
  exact h3
 have hb3:Below w.heap.size w (((w1.setCell ⟨w.heap.size,0,none⟩ (.string s)).setCell ⟨w.heap.size,1,none⟩ (.string t)).setCell ⟨w.heap.size,2,none⟩ (.pointer (some ⟨f,0,none⟩))):=
  (((((Below.refl _ w).alloc nlr _).trans (hb.mono (by simp))).setCell nlr _).setCell nlr _).setCell nlr _
 generalize (((w1.setCell ⟨w.heap.size,0,none⟩ (.string s)).setCell ⟨w.heap.size,1,none⟩ (.string t)).setCell ⟨w.heap.size,2,none⟩ (.pointer (some ⟨f,0,none⟩)))=W at hp3 hb3 ⊢
 have m0:W.cell? ⟨w.heap.size,0,none⟩=some (.string s):=by rw[cell_of_row W _ 0 _ _ _ hp3];rfl
 have m1:W.cell? ⟨w.heap.size,1,none⟩=some (.string t):=by rw[cell_of_row W _ 1 _ _ _ hp3];rfl
 have m2:W.cell? ⟨w.heap.size,2,none⟩=some (.pointer (some ⟨f,0,none⟩)):=by rw[cell_of_row W _ 2 _ _ _ hp3];rfl
 exact bodyPost_ret (v := .agg #[.string s,.string t,.pointer (some ⟨f,0,none⟩)]) (by simp[results,Tryz.results289,go_sem,m0,m1,m2,fptr]) rfl ⟨rfl,hb3⟩
theorem quota_any (D:Nat) (d:Dv) (n:Int) (w:World) (h:DAt w D d) :
  Calls Tryz.prog 135 #[.pointer (some ⟨D,0,none⟩),.int .i64 n] w fun e w'=>e = .returned (.tuple #[])∧DTo w w' D d { d with q:=n }:=by
 obtain⟨c0,_⟩:=h.cell
 have f0:=h.fz 0
 have HD:=hde h
 clear h
 go_enter Tryz.func135,Tryz.ntmps135
 go_wp2
 exact bodyPost_end (results_none rfl _ _ _) rfl ⟨rfl,(uh HD).set (kept1 w D 0 _) (by rw[heap_setCell_same w D 0 _ _ _ (uh HD).blk];rfl) rfl rfl rfl rfl rfl rfl rfl rfl rfl⟩
theorem arm_any (D:Nat) (d:Dv) (n:Int) (w:World) (h:DAt w D d) :
  Calls Tryz.prog 136 #[.pointer (some ⟨D,0,none⟩),.int .i64 n] w fun e w'=>e = .returned (.tuple #[])∧DTo w w' D d { d with armed:=decide (0≤n),left:=n }:=by
 obtain⟨_,_,_,_,c4,c5,_⟩:=h.cell
 have f4:=h.fz 4
 have f5:=h.fz 5
 have HD:=hde h
 clear h
 go_enter Tryz.func136,Tryz.ntmps136
 go_wp2
 exact bodyPost_end (results_none rfl _ _ _) rfl ⟨rfl,(uh HD).set ((kept1 w D 5 _).setCell (fun hk=>hk rfl) _) (by rw[heap_setCell_same _ D 4 _ _ _ (heap_setCell_same w D 5 _ _ _ (uh HD).blk)];rfl) rfl rfl rfl rfl rfl rfl rfl rfl rfl⟩
end Go.Proofs.YteflnddphpjahaaGreatDoor.Pk
