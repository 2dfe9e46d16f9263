import Derived.Test.YteflnddphpjahaaGreatDoorCnRdD
import Derived.BigQuiet
set_option linter.unusedVariables false
set_option linter.unusedSimpArgs false
set_option maxRecDepth 100000
set_option maxHeartbeats 16000000
namespace Go.Proofs.YteflnddphpjahaaGreatDoor.Rd
open Go.RowKit
open Sd (Tb)
open Dk (Kept own_kept)
theorem fls_of_own {w:World} {B:Nat} {v:Value} {L:List Fl} (h:w.ownsRow B 298 2 v L.length (flCells L)):∃ p cap,v = .slice p L.length cap∧∀ k (h:k < L.length),∃ g,p=some ⟨g,0,none⟩∧g < w.heap.size∧w.cell? ⟨g,k * 2,none⟩=some (.string L[k].bytes)∧w.cell? ⟨g,k * 2+1,none⟩=some (.int .i64 (L[k].safe:Int)):=by
 obtain⟨p,cap,hv,hc⟩:=osl h
 refine⟨p,cap,hv,fun k hk=>?_⟩
 obtain⟨e0,e1⟩:=fl_get L k hk
 obtain⟨g,hp,_,hg,c0⟩:=hc (k * 2) (by omega)
 obtain⟨g1,hp1,_,_,c1⟩:=hc (k * 2+1) (by omega)
 have q1:g1=g:=by rw[hp] at hp1;injection hp1 with q;injection q with q;exact q.symm
 subst q1
 exact⟨_,hp,hg,c0.trans e0,c1.trans e1⟩
theorem drN {B:Nat} {a w:World} (h:Below B a w) (n:Nat):Below B a (w.drewN n):=h.trans ⟨rfl,rfl,rfl,Nat.le_refl _,fun _ _=>rfl⟩
theorem fl_at (R:Rk) {i:Nat} (h:i < R.files.length):R.fl i=R.files[i]:=by unfold Rk.fl;rw[List.getD_eq_getElem?_getD,List.getElem?_eq_getElem h];rfl
theorem use_succ (R:Rk) {L:Tb} {k:Nat} (h:k < L.length):R.use (L.take (k+1))=R.use (L.take k)+(R.fl L[k].2).bytes.size:=by
 unfold Rk.use
 rw[List.take_add_one,List.getElem?_eq_getElem h,List.map_append,List.sum_append]
 simp
theorem use_le (R:Rk) (L:Tb) (k:Nat):R.use (L.take k)≤R.use L:=by
 have:R.use L=R.use (L.take k)+R.use (L.drop k):=by
  unfold Rk.use
  rw[← List.sum_append,← List.map_append,List.take_append_drop]
 omega
theorem used_any (D:Nat) (R:Rk) (vf vs vc:Value) (w:World) (h:RAt w D R vf vs vc) (h1:R.safe.length≤100000000) (h2:R.chs.length≤100000000) (hu:R.use R.now≤1152921504606846976) :
  Calls Tryz.prog 102 #[.pointer (some ⟨D,0,none⟩)] w fun e w'=>e = .returned (.int .i64 (R.use R.now:Nat))∧Below w.heap.size w w':=by
 have hd:=now_any D R vf vs vc w h h1 h2
 have hlen:R.now.length≤200000000:=by have:=dir_len R R.chs.length;unfold Rk.now;omega
 have hfile:∀ p ∈ R.now,p.2 < R.files.length:=h.ok.dir_file _
 have HR:=hde h
 obtain⟨L,hL⟩:∃ L,R.now=L:=⟨_,rfl⟩
 rw[hL] at hd hlen hfile hu ⊢
 clear h hL h1 h2
 go_enter Tryz.func102,Tryz.ntmps102
 go_wp2_with fail
 refine hd.mono ?_
 rintro e w1 ⟨v1,rfl,ho,hb⟩
 obtain⟨p,cap,rfl,he⟩:=ents_of_own ho
 clear ho
 have HR1:=hde ((uh HR).below hb)
 go_wp2_with fail
 go_loopw [3,5] (fun u i wr=>∃ k:Nat,k≤L.length∧i = .int .i64 k∧u = .int .i64 (R.use (L.take k):Nat)∧Below w1.heap.size w1 wr) (fun _ i _=>L.length - (intOf i).toNat)
 case atStart=>exact⟨0,Nat.zero_le _,rfl,rfl,Below.refl _ _⟩
 case round =>
  obtain⟨k,hk,rfl,rfl,hbr⟩:=hrel
  have hr:=(uh HR1).below hbr
  obtain⟨c0,_⟩:=hr.cells
  obtain⟨pf,cf,rfl,hfs⟩:=fls_of_own hr.rf
  clear hr
  by_cases hlt:k < L.length
  ·obtain⟨g,rfl,hg,d0,d1⟩:=(he.below hbr) k hlt
   have hu1:=use_le R L (k+1)
   have HS:=use_succ R hlt
   have hfx:=hfile L[k] (List.getElem_mem _)
   obtain⟨x,hx⟩:∃ x,L[k]=x:=⟨_,rfl⟩
   rw[hx] at d0 d1 HS hfx
   obtain⟨gf,rfl,hgf,f0,f1⟩:=hfs x.2 hfx
   rw[← fl_at R hfx] at f0
   obtain⟨u0,hu0⟩:∃ u0,R.use (L.take k)=u0:=⟨_,rfl⟩
   obtain⟨B,hB⟩:∃ B,(R.fl x.2).bytes=B:=⟨_,rfl⟩
   rw[hB] at f0 HS
   rw[hu0] at HS ⊢
   have hw:IntKind.i64.wrap ((u0:Int)+(B.size:Int))=(u0:Int)+(B.size:Int):=by rw[IntKind.wrap_i64];omega
   have HU:=hde HS
   have HL:=hde hu0
   have hx2:(x.2:Int) < (R.files.length:Int):=by omega
   have hx0:¬ (x.2:Int) < 0:=by omega
   clear hx hfx hB HS hu0 f1 d0
   go_wp2_with fail
   go_quiet (fail)
   go_wp2
   go_roundw
   case rel=>exact⟨k+1,by omega,by go_num,by rw[uh HU];first | rfl | (congr 1),drN hbr _⟩
   case measure=>simp[intOf];omega
  ·obtain rfl:k=L.length:=by omega
   have e:L.take L.length=L:=List.take_length
   rw[e]
   clear e
   go_wp2
   go_ret
   exact⟨rfl,hb.trans (hbr.mono hb.size)⟩
def lenV:Value→Nat
 | .slice _ n _=>n
 | _=>0
def later (L:Tb) (m j:Nat):Prop:=m=0∨∀ h:j < L.length,∀ h2:m - 1 < (tab L).length,Sd.lt ((tab L)[m - 1]).1 (L[j]).1=true
def bestOf (L:Tb) (m i:Nat) (b:Value):Prop:=(b = .int .i64 (-1)∧∀ j,j < i→¬ later L m j)∨∃ k,k < i∧b = .int .i64 (k:Int)∧later L m k∧∀ j,j < i→later L m j→∀ (h:j < L.length) (h2:k < L.length),Sd.lt (L[j]).1 (L[k]).1=false
theorem best_is {L:Tb} (hk:keyed L) {m:Nat} (hm:m < L.length) {b:Value} (h:bestOf L m L.length b):∃ k,∃ hk:k < L.length,b = .int .i64 (k:Int)∧∃ h2:m < (tab L).length,L[k]=(tab L)[m]:=by
 have hT:=tab_sorted L
 have hl:=tab_len hk
 have hm2:m < (tab L).length:=by omega
 have hin:(tab L)[m] ∈ L:=(tab_mem hk).1 (List.getElem_mem _)
 obtain⟨j,hj,e⟩:=List.mem_iff_getElem.1 hin
 have hlat:later L m j:=by
  by_cases h0:m=0
  ·exact Or.inl h0
  ·refine Or.inr fun _ h2=>?_
   rw[e]
   exact Sd.tsorted_lt hT (by omega) hm2
 rcases h with ⟨_,h⟩ | ⟨k,hkl,hb,hla,hmin⟩
 ·exact absurd hlat (h j hj)
 ·refine⟨k,hkl,hb,hm2,?_⟩
  have hmk:=hmin j hj hlat hj hkl
  rw[e] at hmk
  obtain⟨i,hi,e2⟩:=List.mem_iff_getElem.1 ((tab_mem hk).2 (List.getElem_mem hkl))
  have h1:¬ m < i:=fun hlt=>by have:=Sd.tsorted_lt hT hlt hi;rw[e2,hmk] at this;cases this
  have h2:¬ i < m:=fun hlt=>by
   rcases hla with h0 | h0
   ·omega
   ·have h3:=h0 hkl (by omega)
    rw[← e2] at h3
    have:=Sd.tsorted_le hT (i:=i) (j:=m - 1) (by omega) (by omega)
    rw[h3] at this;cases this
  have:i=m:=by omega
  subst this
  exact e2.symm
theorem best_skip {L:Tb} {m i:Nat} {b:Value} (h:bestOf L m i b) (hn:¬ later L m i):bestOf L m (i+1) b:=by
 rcases h with ⟨hb,h⟩ | ⟨k,hk,hb,hl,h⟩
 ·refine Or.inl ⟨hb,fun j hj hh=>?_⟩
  rcases Nat.lt_or_eq_of_le (Nat.le_of_lt_succ hj) with q | q
  ·exact h j q hh
  ·subst q;exact hn hh
 ·refine Or.inr ⟨k,by omega,hb,hl,fun j hj hh=>?_⟩
  rcases Nat.lt_or_eq_of_le (Nat.le_of_lt_succ hj) with q | q
  ·exact h j q hh
  ·subst q;exact absurd hh hn
theorem best_new {L:Tb} {m i:Nat} {b:Value} (h:bestOf L m i b) (hb:b = .int .i64 (-1)) (hl:later L m i):bestOf L m (i+1) (.int .i64 (i:Int)):=by
 refine Or.inr ⟨i,by omega,rfl,hl,fun j hj hh h1 h2=>?_⟩
 rcases Nat.lt_or_eq_of_le (Nat.le_of_lt_succ hj) with q | q
 ·rcases h with ⟨_,h⟩ | ⟨k,_,hb2,_⟩
  ·exact absurd hh (h j q)
  ·rw[hb] at hb2;injection hb2 with _ h3;omega
 ·subst q;exact Sd.lt_irrefl _
theorem best_less {L:Tb} {m i k:Nat} (hi:i < L.length) (hk:k < L.length) (h:bestOf L m i (.int .i64 (k:Int))) (hl:later L m i) (hlt:Sd.lt (L[i]).1 (L[k]).1=true):bestOf L m (i+1) (.int .i64 (i:Int)):=by
 refine Or.inr ⟨i,by omega,rfl,hl,fun j hj hh h1 h2=>?_⟩
 rcases Nat.lt_or_eq_of_le (Nat.le_of_lt_succ hj) with q | q
 ·rcases h with ⟨hb,_⟩ | ⟨k',_,hb2,_,h⟩
  ·injection hb with _ h3;omega
  ·have:k'=k:=by injection hb2 with _ h3;omega
   subst this
   have h3:=h j q hh h1 hk
   cases h4:Sd.lt (L[j]).1 (L[i]).1 with
   | false=>rfl
   | true=>have:=Sd.lt_trans h4 hlt;rw[h3] at this;cases this
 ·subst q;exact Sd.lt_irrefl _
theorem best_more {L:Tb} {m i k:Nat} (hi:i < L.length) (hk:k < L.length) (h:bestOf L m i (.int .i64 (k:Int))) (hlt:Sd.lt (L[i]).1 (L[k]).1=false):bestOf L m (i+1) (.int .i64 (k:Int)):=by
 rcases h with ⟨hb,_⟩ | ⟨k',hk',hb2,hl,h⟩
 ·injection hb with _ h3;omega
 ·have:k'=k:=by injection hb2 with _ h3;omega
  subst this
  refine Or.inr ⟨k',by omega,rfl,hl,fun j hj hh h1 h2=>?_⟩
  rcases Nat.lt_or_eq_of_le (Nat.le_of_lt_succ hj) with q | q
  ·exact h j q hh h1 h2
  ·subst q;exact hlt
theorem gtr_run {a b:ByteArray} (h1:Op.bytesLess a.toList b.toList=false) (h2:(a.toList == b.toList)=false) (W:World):Sem.run Tryz.prog (binOp .gtr 9 (.string a) (.string b)) W = .ok (.bool true) W:=by
 show Sem.run Tryz.prog (pure (Value.bool !(Op.bytesLess a.toList b.toList || (a.toList == b.toList)))) W=_
 rw[h1,h2];rfl
theorem gtr_run0 {a b:ByteArray} (h1:(Op.bytesLess a.toList b.toList || (a.toList == b.toList))=true) (W:World):Sem.run Tryz.prog (binOp .gtr 9 (.string a) (.string b)) W = .ok (.bool false) W:=by
 show Sem.run Tryz.prog (pure (Value.bool !(Op.bytesLess a.toList b.toList || (a.toList == b.toList)))) W=_
 rw[h1];rfl
theorem sorted_any (p:Option Addr) (cap:Nat) (L:Tb) (w:World) (h:EntsIn w w.heap.size p L) (hl:L.length≤1000000000) (hk:keyed L) :
  Calls Tryz.prog 94 #[.slice p L.length cap] w (EnPost w (tab L)):=by
 obtain⟨i0,hti,hz0,hz1,hz2⟩:=info_parts Tryz.info_entry
 have HE:=hde h
 have HK:=hde hk
 have htl:=tab_len hk
 clear h hk
 go_enter Tryz.func94,Tryz.ntmps94
 go_wp2
 go_loopw [3] (fun v wr=>∃ m:Nat,m≤L.length∧wr.ownsRow w.heap.size 213 2 v ((tab L).take m).length (enCells ((tab L).take m))∧Below w.heap.size w wr) (fun v _=>L.length - lenV v)
 case atStart=>exact⟨0,Nat.zero_le _,World.ownsRow_nil _ _ _ _,Below.refl _ _⟩
 case round =>
  obtain⟨m,hm,ho,hb⟩:=hrel
  have htk:((tab L).take m).length=m:=by rw[List.length_take];omega
  obtain⟨pv,cv,hv,hev⟩:=ents_of_own ho
  rw[htk] at ho hv
  subst hv
  by_cases hlt:m < L.length
  ·go_wp2
   go_loopw [4,5] (fun b ii wr'=>∃ i:Nat,i≤L.length∧ii = .int .i64 i∧bestOf L m i b∧Below wr.heap.size wr wr') (fun _ ii _=>L.length - (intOf ii).toNat)
   case atStart=>exact⟨0,Nat.zero_le _,rfl,Or.inl ⟨rfl,fun j hj=>by omega⟩,Below.refl _ _⟩
   case round =>
    obtain⟨i,hi,rfl,hbest,hb2⟩:=hrel
    have HB:=hde hbest
    clear hbest
    by_cases hil:i < L.length
    ·have he:=(uh HE).below (hb.trans (hb2.mono hb.size))
     obtain⟨g,rfl,hg,c0,c1⟩:=he i hil
     have hi0:¬ (i:Int) < 0:=by omega
     rcases Nat.eq_zero_or_pos m with hm0 | hm0
     ·have hmz:((m:Int) == 0)=true:=by rw[hm0];rfl
      have HM:=hde hm0
      clear hm0
      rcases uh HB with ⟨hbe,_⟩ | ⟨k,hki,hbe,_⟩
      ·subst hbe
       go_wp2_with fail
       go_quiet (fail)
       go_wp2_with fail
       go_quiet (fail)
       go_wp2
       go_roundw
       case rel=>exact⟨i+1,by omega,by go_num,best_new (uh HB) rfl (Or.inl (uh HM)),by first | exact drN (drN hb2 _) _ | exact drN hb2 _⟩
       case measure=>simp[intOf];omega
      ·subst hbe
       have hkL:k < L.length:=by omega
       obtain⟨g2,hp2,hg2,k0,k1⟩:=he k hkL
       have q1:g2=g:=by injection hp2 with q;injection q with q;exact q.symm
       subst q1
       have hk0:¬ (k:Int) < 0:=by omega
       have hkz:(k:Int) < (L.length:Int):=by omega
       cases hq:Sd.lt L[i].1 L[k].1 with
       | true =>
        have hq2:Op.bytesLess (L[i].1).toList (L[k].1).toList=true:=hq
        have HQ:=hde hq
        clear hq
        go_wp2_with fail
        go_quiet (fail)
        go_wp2_with fail
        go_quiet (fail)
        go_wp2
        go_roundw
        case rel=>exact⟨i+1,by omega,by go_num,best_less hil hkL (uh HB) (Or.inl (uh HM)) (uh HQ),by first | exact drN (drN hb2 _) _ | exact drN hb2 _⟩
        case measure=>simp[intOf];omega
       | false =>
        have hq2:Op.bytesLess (L[i].1).toList (L[k].1).toList=false:=hq
        have HQ:=hde hq
        clear hq
        go_wp2_with fail
        go_quiet (fail)
        go_wp2_with fail
        go_quiet (fail)
        go_wp2
        go_roundw
        case rel=>exact⟨i+1,by omega,by go_num,best_more hil hkL (uh HB) (uh HQ),by first | exact drN (drN hb2 _) _ | exact drN hb2 _⟩
        case measure=>simp[intOf];omega
     ·obtain⟨n,hn⟩:∃ n,m=n+1:=⟨m - 1,by omega⟩
      obtain⟨gv,hpv,hgv,v0,v1⟩:=(hev.below hb2) n (by omega)
      subst hpv
      have hn0:((m:Int) == 0)=false:=beq_eq_false_iff_ne.2 (by omega)
      have hnw:IntKind.i64.wrap ((m:Int) - 1)=(n:Int):=by rw[IntKind.wrap_i64];omega
      have hnm:n < m:=by omega
      have hnz:(n:Int) < (m:Int):=by omega
      have hnt:n < (tab L).length:=by omega
      have v0':_=some (Value.string ((tab L)[n]'hnt).1):=v0.trans (by rw[List.getElem_take])
      clear v0 v1
      have HLA:Hid (∀ b,Sd.lt ((tab L)[n]).1 (L[i]).1=b→(b=true↔later L m i)):=fun b hb=>by
       subst hn
       constructor
       ·intro h;exact Or.inr fun _ _=>by rw[← h,← hb];rfl
       ·rintro(h | h)
        ·omega
        ·rw[← hb];exact h hil hnt
      clear hn
      cases hq:Sd.lt ((tab L)[n]).1 L[i].1 with
      | true =>
       have hqq:Op.bytesLess (L[i].1).toList (((tab L)[n]).1).toList=false:=Sd.lt_asymm hq
       have hqe:((L[i].1).toList == (((tab L)[n]).1).toList)=false:=str_ne (fun e=>Sd.lt_ne hq e.symm)
       have hgt:∀ W,Sem.run Tryz.prog (binOp .gtr 9 (.string L[i].1) (.string ((tab L)[n]).1)) W = .ok (.bool true) W:=fun W=>gtr_run hqq hqe W
       have HLT:Hid (later L m i):=((uh HLA) _ hq).1 rfl
       clear hq
       rcases uh HB with ⟨hbe,_⟩ | ⟨k,hki,hbe,_⟩
       ·subst hbe
        go_wp2_with fail
        go_quiet (fail)
        go_wp2_with fail
        go_quiet (fail)
        go_wp2
        go_roundw
        case rel=>exact⟨i+1,by omega,by go_num,best_new (uh HB) rfl (uh HLT),by first | exact drN (drN hb2 _) _ | exact drN hb2 _⟩
        case measure=>simp[intOf];omega
       ·subst hbe
        have hkL:k < L.length:=by omega
        obtain⟨g2,hp2,hg2,k0,k1⟩:=he k hkL
        have q1:g2=g:=by injection hp2 with q;injection q with q;exact q.symm
        subst q1
        have hk0:¬ (k:Int) < 0:=by omega
        have hkz:(k:Int) < (L.length:Int):=by omega
        cases hq:Sd.lt L[i].1 L[k].1 with
        | true =>
         have hq2:Op.bytesLess (L[i].1).toList (L[k].1).toList=true:=hq
         have HQ:=hde hq
         clear hq
         go_wp2_with fail
         go_quiet (fail)
         go_wp2_with fail
         go_quiet (fail)
         go_wp2
         go_roundw
         case rel=>exact⟨i+1,by omega,by go_num,best_less hil hkL (uh HB) (uh HLT) (uh HQ),by first | exact drN (drN hb2 _) _ | exact drN hb2 _⟩
         case measure=>simp[intOf];omega
        | false =>
         have hq2:Op.bytesLess (L[i].1).toList (L[k].1).toList=false:=hq
         have HQ:=hde hq
         clear hq
         go_wp2_with fail
         go_quiet (fail)
         go_wp2_with fail
         go_quiet (fail)
         go_wp2
         go_roundw
         case rel=>exact⟨i+1,by omega,by go_num,best_more hil hkL (uh HB) (uh HQ),by first | exact drN (drN hb2 _) _ | exact drN hb2 _⟩
         case measure=>simp[intOf];omega
      | false =>
       have HLT:Hid (¬ later L m i):=fun h=>by have:=((uh HLA) _ hq).2 h;cases this
       rcases Sd.le_of hq with hq | hq
       ·have hqe:((L[i].1).toList == (((tab L)[n]).1).toList)=true:=str_is hq
        have hqq:Op.bytesLess (L[i].1).toList (((tab L)[n]).1).toList=false:=by rw[hq];exact Sd.lt_irrefl _
        have hgt:∀ W,Sem.run Tryz.prog (binOp .gtr 9 (.string L[i].1) (.string ((tab L)[n]).1)) W = .ok (.bool false) W:=fun W=>gtr_run0 (by rw[hqq,hqe];rfl) W
        clear hq
        go_wp2_with fail
        go_quiet (fail)
        go_wp2_with fail
        go_quiet (fail)
        go_wp2
        go_roundw
        case rel=>exact⟨i+1,by omega,by go_num,best_skip (uh HB) (uh HLT),by first | exact drN (drN hb2 _) _ | exact drN hb2 _⟩
        case measure=>simp[intOf];omega
       ·have hqq:Op.bytesLess (L[i].1).toList (((tab L)[n]).1).toList=true:=hq
        have hgt:∀ W,Sem.run Tryz.prog (binOp .gtr 9 (.string L[i].1) (.string ((tab L)[n]).1)) W = .ok (.bool false) W:=fun W=>gtr_run0 (by rw[hqq];rfl) W
        clear hq
        go_wp2_with fail
        go_quiet (fail)
        go_wp2_with fail
        go_quiet (fail)
        go_wp2
        go_roundw
        case rel=>exact⟨i+1,by omega,by go_num,best_skip (uh HB) (uh HLT),by first | exact drN (drN hb2 _) _ | exact drN hb2 _⟩
        case measure=>simp[intOf];omega
    ·obtain rfl:i=L.length:=by omega
     obtain⟨k,hkl,hbe,hmt,hx⟩:=best_is (uh HK) hlt (uh HB)
     subst hbe
     have he:=(uh HE).below (hb.trans (hb2.mono hb.size))
     obtain⟨g,hp,hg,c0,c1⟩:=he k hkl
     subst hp
     have HS:Hid ((tab L).take (m+1)=(tab L).take m++[L[k]]):=by
      show _=_
      rw[List.take_add_one,List.getElem?_eq_getElem hmt,hx];rfl
     obtain⟨x,hxx⟩:∃ x,L[k]=x:=⟨_,rfl⟩
     rw[hxx] at c0 c1 HS
     have hk0:¬ (k:Int) < 0:=by omega
     have hkz:(k:Int) < (L.length:Int):=by omega
     have ho2:=obl ho hb2
     have hbw:=hb.trans (hb2.mono hb.size)
     have hB:=hbw.size
     clear hx hxx ho he HB hev
     go_wp2_with (first
      | (at_builtin;go_must (refine wpList_append_own _ rfl (.tmp 58) (.tmp 63) 206 rfl w.heap.size 213 i0 _ 2 24 Tryz.underlying206 hti hz0 hz1 hz2 rfl (by decide) _ _ _ rfl (ho2.alloc _) ⟨wr.heap.size,0,none⟩ 1 1 [.string x.1,.int .i64 (x.2:Int)] rfl rfl ?c1 ?c2 ?c3 ?c4 ?c5 ?_))
      | go_in)
     case c2=>exact⟨rfl,rfl⟩
     case c3=>unfold maxLen;omega
     case c4=>omega
     case c5=>first | omega | (simp;omega)
     intro v3 w3 hl3 hg3 _
     have hbw3:=rel_app (ys:=[]) (v':=v3) (by simp;omega) (ho2.alloc _) (hbw.alloc hB _) hg3
     have hl4:lenV v3=m+1:=by
      obtain⟨p3,c3,hv3,_⟩:=osl hl3
      rw[hv3];rfl
     clear hg3 ho2
     go_wp2
     go_roundw
     case rel=>exact⟨m+1,by omega,by rw[uh HS,en_snoc,List.length_append,htk];exact hl3,hbw3⟩
     case measure=>rw[hl4];show L.length - (m+1) < L.length - m;omega
  ·obtain rfl:m=L.length:=by omega
   go_wp2
   go_ret
   refine⟨_,rfl,?_,hb⟩
   have e:(tab L).take L.length=tab L:=by rw[← htl,List.take_length]
   rw[e] at ho
   rw[htl]
   exact ho
end Go.Proofs.YteflnddphpjahaaGreatDoor.Rd
