import Derived.Test.YteflnddphpjahaaGreatDoorCnDlFtoDlG
import Derived.Laws.CopyOwn
import Derived.OwnWalk
import Derived.Deep.Cut
set_option linter.unusedVariables false
set_option linter.unusedSimpArgs false
set_option maxRecDepth 100000
set_option maxHeartbeats 16000000
namespace Go.Proofs.YteflnddphpjahaaGreatDoor.Dl
open Go.RowKit
open Rd (strs drN Rk RAt rOwn)
open Dk (Kept own_kept)
open Pk (Pair Half Sm DAt dOwn blk_lt blk_ne own_blk own_lt own_sl)
theorem Inv.held {w0 w w':World} {W:Nat} {Ps:List Pr} {vd vr:Value} {N N':Nat} {vT vI vT' vI':Value} {ht hi ht' hi':List (Value × Int)} {n b:Nat} {ok:Nat→Prop} (h:Inv w0 w W Ps vd vr N vT vI ht hi n b) (hw:WAt w' W vd vr N' vT' vI' ht' hi') (hk:Kept w w' ok)
  (hp:∀ k c t fr,w.heap[k]? = some (.cells c t fr)→(t ∈ pTypes∨t=192∨t=136)→ok k) (hb:∀ k,k < w0.heap.size→ok k)
  (f1:∀ g,vT'.ownBlock=some g→w0.heap.size≤g) (f2:∀ g,vI'.ownBlock=some g→w0.heap.size≤g) (f3:∀ p ∈ ht',∀ g,p.1.ownBlock=some g→w0.heap.size≤g) (f4:∀ p ∈ hi',∀ g,p.1.ownBlock=some g→w0.heap.size≤g) :
  Inv w0 w' W Ps vd vr N' vT' vI' ht' hi' n b:=by
 have hbase:=h.base.size
 refine⟨hw,own_kept h.rd hk (fun g hg=>?_),own_kept h.rr hk (fun g hg=>?_),fun p hpm=>⟨(h.pr p hpm).1.kept hk (fun k hkO=>?_),(h.pr p hpm).2⟩,h.ap,?_,⟨h.frm.W,h.frm.vd,h.frm.vr,f1,f2,h.frm.ps,f3,f4⟩⟩
 ·obtain⟨c,hc,_⟩:=own_blk h.rd hg;exact hp g _ _ _ hc (Or.inr (Or.inl rfl))
 ·obtain⟨c,hc,_⟩:=own_blk h.rr hg;exact hp g _ _ _ hc (Or.inr (Or.inr rfl))
 ·obtain⟨c,t,fr,hc,ht⟩:=pair_ty (h.pr p hpm).1 hkO;exact hp k _ _ _ hc (Or.inl ht)
 ·refine⟨hk.os.trans h.base.os,hk.tape.trans h.base.tape,hk.output.trans h.base.output,Nat.le_trans hbase hk.size,fun k hk1=>?_⟩
  rw[hk.block k (by omega) (hb k hk1),h.base.block k hk1]
theorem ty_tk {w:World} {W:Nat} {vd vr:Value} {N:Nat} {vT vI v:Value} {ht hi:List (Value × Int)} {m:Nat} {xs:List Value} (h:WAt w W vd vr N vT vI ht hi) (hv:w.ownsRow 0 9 1 v m xs) {k:Nat} {c:Array Value} {t:Nat} {fr:Nat × Nat} (hc:w.heap[k]? = some (.cells c t fr)) (ht:t≠98∧t≠71∧t≠9):tk W vT v k :=
 ⟨fun e=>blk_ne hc h.blk ht.1 e,fun e=>by obtain⟨x,hx,_⟩:=own_blk h.rT e;exact blk_ne hc hx ht.2.1 rfl,fun e=>by obtain⟨x,hx,_⟩:=own_blk hv e;exact blk_ne hc hx ht.2.2 rfl⟩
theorem not_pT {t:Nat} (h:t ∈ pTypes∨t=192∨t=136):t≠98∧t≠71∧t≠9∧t≠74∧t≠3:=by
 unfold pTypes at h
 simp only[List.mem_cons,List.not_mem_nil,or_false] at h
 omega
theorem Sm.lst {R:Rk} {n b:Nat} (h:Sm R n b) (hok:R.Ok):R.lst.length≤n:=by
 unfold Rk.lst
 split
 ·exact Nat.zero_le _
 ·rw[List.length_map]
  show (Rd.tab (R.dir R.chs.length)).length≤n
  rw[Rd.tab_len (hok.dir_keyed _)]
  have h2:=Rd.dir_len R R.chs.length
  have h3:=h.dir
  omega
def LsPost (w0 w:World) (W:Nat) (Ps:List Pr) (vd vr:Value) (N:Nat) (vT vI:Value) (ht hi:List (Value × Int)) (n b:Nat) (e:Ending) (w':World):Prop :=
 e = .returned (.bool true)∧∃ vT' new,Inv w0 w' W Ps vd vr (N+1) vT' vI (ht++new) hi n b∧new.length=4∧Kept w w' (fun k=>k≠W∧vT.ownBlock≠some k)
theorem lists_any (w0 w:World) (W:Nat) (Ps:List Pr) (vd vr:Value) (N:Nat) (vT vI:Value) (ht hi:List (Value × Int)) (n b i:Nat) (h:Inv w0 w W Ps vd vr N vT vI ht hi n b) (hil:i < Ps.length) (hn:n≤100000) (hb:b≤1048576) (hN:N+1≤10000000) (hht:ht.length+4≤10000000) :
  Calls Tryz.prog 50 #[.pointer (some ⟨W,0,none⟩),.int .i64 (i:Int)] w (LsPost w0 w W Ps vd vr N vT vI ht hi n b):=by
 obtain⟨g,cap,g',cap',e1,e2,q1,_⟩:=h.ptr i hil
 obtain⟨hpr,hsm⟩:=h.pr Ps[i] (List.getElem_mem _)
 have hfit:=hsm.fit hn hb hpr.ok.2
 have hll:=Sm.lst hsm hpr.ok.1
 have x0:=h.wat.cell.1
 rw[e1] at x0
 have hiz:(i:Int) < (Ps.length:Int):=by omega
 have hi0:¬ (i:Int) < 0:=by omega
 have hC:=Pk.p_list hpr hsm hn
 have hWl:=blk_lt h.wat.blk
 have H:=hde h
 have HF:=hde hfit
 have HE:=hde (And.intro e1 e2)
 clear h hpr hsm hfit e1 e2
 go_enter Tryz.func50,Tryz.ntmps50
 go_wp2_with fail
 refine hC.mono ?_
 rintro e w1 ⟨v,rfl,ho1,hb1⟩
 have h1:=(uh H).below hb1
 obtain⟨_,_,_,_,f1,f2,_,q2⟩:=h1.ptr i hil
 rw[(uh HE).2] at f2
 injection f2 with f2 _ f3
 injection f2 with f2
 injection f2 with f2
 subst f2 f3
 have x1:=h1.wat.cell.2.1
 rw[(uh HE).2] at x1
 have rC:=Pk.r_list (h1.pr Ps[i] (List.getElem_mem _)).1 (uh HF)
 obtain⟨p,c,rfl⟩:=own_sl ho1
 have HB1:=hde (And.intro hb1 ho1)
 clear hC h1 f1 hb1 x0 q1 ho1
 go_wp2_with fail
 refine rC.mono ?_
 rintro e w2 ⟨v2,rfl,ho2,hb2⟩
 obtain⟨p2,c2,rfl⟩:=own_sl ho2
 obtain⟨hb1,ho1⟩:=uh HB1
 have hbb:=hb1.trans (hb2.mono hb1.size)
 have hv2:=obl ho1 hb2
 have hst:=sameTexts_any _ _ _ _ _ w2 hv2 ho2 (by omega)
 obtain⟨r,hr⟩:∃ r,(Ps[i]).R.lstE=r:=⟨_,rfl⟩
 rw[hr]
 obtain⟨L,hL⟩:∃ L,(Ps[i]).R.lst=L:=⟨_,rfl⟩
 rw[hL] at hll hv2 hst ho1 ho2 ⊢
 have HB2:=hde (And.intro hbb (And.intro hv2 ho2))
 have hrr:(r == r)=true:=beq_iff_eq.2 rfl
 clear hbb hv2 ho2 hb1 ho1 hb2 rC hr x1 q2 HB1
 go_wp2_with fail
 refine hst.mono ?_
 rintro e w3 ⟨rfl,hb3⟩
 obtain⟨hbb,hv2,ho2⟩:=uh HB2
 have hbc:=hbb.trans (hb3.mono hbb.size)
 have h3:=(uh H).below hbc
 have hv3:=obl hv2 hb3
 have hv30:w3.ownsRow 0 9 1 (.slice p L.length c) L.length (strs L):=Pk.own_le hv3 (Nat.zero_le _)
 have hnew:∀ j,(Value.slice p L.length c).ownBlock=some j→w.heap.size≤j:=fun j hj=>(own_blk hv3 hj).choose_spec.2
 have hC:=texts_any W vd vr N vT vI _ ht hi L.length (strs L) w3 h3.wat hN hht hv30 (by omega) (fun x hx=>by unfold strs at hx;obtain⟨s,_,rfl⟩:=List.mem_map.1 hx;exact⟨s,rfl⟩) (fun q hq j hj e=>by
  obtain⟨m,_,ho⟩:=((uh H).wat.mT q hq).2.2
  have:=own_lt ho hj
  have:=hnew j e
  omega)
 have H3:=hde (And.intro h3 (And.intro hv30 (And.intro hbc hnew)))
 clear hbb hv2 ho2 hbc h3 hv3 hv30 hnew hb3 hst HB2
 go_wp2_with fail
 refine hC.mono ?_
 rintro e w4 ⟨rfl,vT',new,hw4,hlen,hk4,hnT,hnN⟩
 have HR:Hid (LsPost w0 w W Ps vd vr N vT vI ht hi n b (.returned (.bool true)) w4):=by
  obtain⟨h3,hv30,hbc,hnew⟩:=uh H3
  have hbs:=h3.base.size
  have hb0:=(uh H).base.size
  have hws:=hbc.size
  refine hde ⟨rfl,vT',new,h3.held hw4 hk4 (fun k c t fr hc ht=>?_) (fun k hk=>?_) (fun j hj=>?_) h3.frm.vI (fun q hq j hj=>?_) h3.frm.hi,hlen,kept_then (Kept.below hbc _) hk4 (fun k hk hh=>?_)⟩
  ·have:=not_pT ht;exact ty_tk h3.wat hv30 hc ⟨this.1,this.2.1,this.2.2.1⟩
  ·have:=h3.frm.W
   exact⟨by omega,fun e=>by have:=h3.frm.vT k e;omega,fun e=>by have:=hnew k e;omega⟩
  ·rcases hnT j hj with q | q
   ·exact h3.frm.vT j q
   ·omega
  ·rcases List.mem_append.1 hq with e | e
   ·exact h3.frm.ht q e j hj
   ·rcases hnN q e j hj with q1 | q1
    ·have:=hnew j q1;omega
    ·omega
  ·exact⟨hh.1,hh.2,fun e=>by have:=hnew k e;omega⟩
 clear hw4 hk4 hnT hnN hC
 go_wp2_with (go_at_call 16;refine(num_any _ _).mono ?_;rintro e w' ⟨rfl,hw⟩;obtain rfl:=hw.symm)
 go_ret
 exact uh HR
open Rd (strs drN own_setIn)
open Pk (blk_lt blk_ne own_blk own_lt own_sl)
theorem Tryz.info_hnum:(Tryz.prog.info? 3).map (fun i=>(i.zero,i.size,i.bytes))=some (some (.int .i64 0),1,8):=by kernel_rfl
theorem Tryz.info_hin:(Tryz.prog.info? 74).map (fun i=>(i.zero,i.size,i.bytes))=some (some (.agg #[.slice none 0 0,.int .i64 0]),2,32):=by kernel_rfl
def nums (K:Nat→Int) (n:Nat):List Value:=(List.range n).map fun j=>.int .i64 (K j)
theorem nums_len (K:Nat→Int) (n:Nat):(nums K n).length=n:=by unfold nums;simp
theorem nums_get (K:Nat→Int) {n j:Nat} (h:j < n):(nums K n)[j]? = some (.int .i64 (K j)):=by
 unfold nums;rw[List.getElem?_map,List.getElem?_range h];rfl
def lentL (K:Nat→Int) (n j:Nat):List Value:=nums K n++(List.replicate j (.int .i64 1099511627783)++List.replicate (2 - j) (.int .i64 0))
theorem lentL_len (K:Nat→Int) (n j:Nat) (h:j≤2):(lentL K n j).length=n+2:=by unfold lentL;simp[nums_len];omega
theorem lentL_set (K:Nat→Int) (n j:Nat) (h:j < 2):(lentL K n j).set (n+j) (.int .i64 1099511627783)=lentL K n (j+1):=by
 unfold lentL
 rw[List.set_append_right _ _ (by rw[nums_len];omega),nums_len]
 have:j=0∨j=1:=by omega
 rcases this with rfl | rfl
 ·simp[List.replicate]
 ·have:n+1 - n=1:=by omega
  rw[this];simp[List.replicate]
theorem lentL_get (K:Nat→Int) (n j:Nat) (h:j < n+2):(lentL K n 2)[j]? = some (.int .i64 (if j < n then K j else 1099511627783)):=by
 unfold lentL
 by_cases e:j < n
 ·rw[List.getElem?_append_left (by rw[nums_len];exact e),nums_get K e,if_pos e]
 ·rw[List.getElem?_append_right (by rw[nums_len];omega),nums_len,if_neg e]
  have:j - n=0∨j - n=1:=by omega
  rcases this with h | h <;> rw[h] <;> rfl
theorem lend_any (kpp:Option Addr) (kn kc:Nat) (K:Nat→Int) (w:World) (hK:Rd.KpAt w kpp kn K) (hkn:kn≤1048576) :
  Calls Tryz.prog 137 #[.slice kpp kn kc] w fun e w'=>e = .returned (.slice (some ⟨w.heap.size,0,none⟩) (kn+2) (kn+2))∧w'.ownsRow w.heap.size 3 1 (.slice (some ⟨w.heap.size,0,none⟩) (kn+2) (kn+2)) (kn+2) (lentL K kn 2)∧Below w.heap.size w w':=by
 obtain⟨t1,ht1,hua,hub,huc⟩:=info_parts Tryz.info_hnum
 have HK:=hde hK
 clear hK
 go_enter Tryz.func137,Tryz.ntmps137
 go_wp2_with (first
  | ((refine wpList_make_full _ rfl (.tmp 7) (.tmp 7) 72 rfl w.heap.size 3 t1 _ 1 Tryz.underlying72 ht1 hua hub .i64 .i64 _ _ (kn+2) rfl rfl (by go_num) (by go_num) (by rw[huc];omega) (by unfold maxLen;omega) nlr ?_))
  | go_in)
 intro W1 hrow hgr
 have hb1:Below w.heap.size w W1:=(Below.refl _ w).grown hgr nlr (fun q hq=>by cases hq)
 have hblk:W1.heap[w.heap.size]? = some (.cells (List.replicate (kn+2) (Value.int .i64 0)).toArray 3 (0,0)):=by
  rcases hrow.2 with ⟨q,_⟩ | ⟨g,cap,cur,hv,_,hg,_,_,hcs,ht⟩
  ·cases q
  ·injection hv with a1 a2 a3
   injection a1 with a1
   injection a1 with a1
   subst a1 a3
   rw[hg]
   have:cur.toList=List.replicate (kn+2) (Value.int .i64 0):=by
    rw[← toList_madeCells_one]
    rw[List.take_of_length_le (by rw[Array.length_toList];omega)] at ht
    rw[ht]
   rw[← this]
 obtain⟨Z,hZ⟩:∃ Z,List.replicate (kn+2) (Value.int .i64 0)=Z:=⟨_,rfl⟩
 rw[hZ] at hblk
 have HZ:=hde hZ
 have HB:=hde (And.intro hb1 hblk)
 clear hrow hgr hb1 hblk hZ
 have HP:Hid (0 < (nums K kn).length→∃ ad,kpp=some ad∧∀ j v,(nums K kn)[j]? = some v→W1.cell? (ad.add j)=some v):=hde (fun hp=>by
  rw[nums_len] at hp
  obtain⟨g,o,hpp,hgl,_⟩:=(uh HK) 0 hp
  refine⟨_,hpp,fun j v hj=>?_⟩
  have hjl:j < kn:=by
   rcases Nat.lt_or_ge j kn with q | q
   ·exact q
   ·rw[List.getElem?_eq_none (by rw[nums_len];exact q)] at hj;cases hj
  obtain⟨g',o',hpp',hgl',hc,_⟩:=(uh HK) j hjl
  rw[hpp] at hpp'
  injection hpp' with hpp'
  injection hpp' with q1 q2
  subst q1 q2
  rw[nums_get K hjl] at hj
  have:=((uh HB).1.cell (p:=⟨g,o+j,none⟩) hgl).trans (hc.trans hj)
  unfold Addr.add
  split
  ·rename_i e;rw[e] at this;exact this
  ·exact this)
 have HN:Hid ((nums K kn).length=Nat.min kn (kn+2)):=hde (by rw[nums_len];show kn=min kn (kn+2);omega)
 have HO:Hid (∀ v ∈ nums K kn,v.oneCell'=true):=hde (fun v hv=>by unfold nums at hv;obtain⟨j,_,rfl⟩:=List.mem_map.1 hv;rfl)
 have HF:Hid (0+(nums K kn).length≤Z.length):=hde (by rw[nums_len,← uh HZ,List.length_replicate];omega)
 have HS:Hid ((Tryz.prog.info? 3).map (·.size)=some 1):=hde (by rw[ht1];simp[hub])
 have HT:=fun ops rest o a Q hgd ho hd hs h=>wpList_copy_splice (P:=Tryz.prog) (w:=W1) (ops:=ops) (rest:=rest) (o:=o) (a:=a) (Q:=Q) hgd (.tmp 9) (.tmp 10) 72 72 ho 3 Tryz.underlying72 (uh HS) (some ⟨w.heap.size,0,none⟩) kpp (kn+2) (kn+2) kn kc hd hs w.heap.size 0 Z 3 (uh HB).2 (nums K kn) (uh HN) (fun h=>⟨rfl,(uh HP) h⟩) (uh HF) (uh HO) w.heap.size w (uh HB).1 nlr h
 replace HT:=hde HT
 go_wp2_with (first
  | (refine(uh HT) _ _ _ _ _ rfl rfl rfl rfl ?_)
  | go_in)
 intro W2 hblk2 hb2
 have hrow2:W2.ownsRow w.heap.size 3 1 (.slice (some ⟨w.heap.size,0,none⟩) (kn+2) (kn+2)) (kn+2) (lentL K kn 0):=by
  have e:splice Z 0 (nums K kn)=lentL K kn 0:=by
   rw[← uh HZ]
   unfold splice lentL
   rw[nums_len];simp
  rw[e] at hblk2
  exact⟨by rw[lentL_len _ _ _ (by omega)];omega,Or.inr ⟨w.heap.size,kn+2,_,rfl,Nat.le_refl _,uh hblk2,Nat.le_refl _,by unfold maxLen;omega,by rw[List.size_toArray,lentL_len _ _ _ (by omega)];omega,List.take_of_length_le (by simp[lentL_len])⟩⟩
 have HB2:=hde (And.intro hb2 hrow2)
 clear hblk2 hb2 hrow2 HB
 go_wp2_with fail
 go_loopw [4] (fun i wr=>∃ j:Nat,j≤2∧i = .int .i64 ((kn+j:Nat):Int)∧Below w.heap.size w wr∧wr.ownsRow w.heap.size 3 1 (.slice (some ⟨w.heap.size,0,none⟩) (kn+2) (kn+2)) (kn+2) (lentL K kn j)) (fun i _=>kn+2 - (intOf i).toNat)
 case atStart=>exact⟨0,by omega,by go_num,(uh HB2).1,(uh HB2).2⟩
 case round =>
  obtain⟨j,hj,rfl,hb,hr⟩:=hrel
  by_cases hlt:j < 2
  ·have hc:=hr.cellAt (kn+j) (by omega)
   have hx:(lentL K kn j)[kn+j]? = some (.int .i64 0):=by
    unfold lentL
    rw[List.getElem?_append_right (by rw[nums_len];omega),nums_len,List.getElem?_append_right (by rw[List.length_replicate];omega),List.getElem?_replicate,List.length_replicate,if_pos (by omega)]
   rw[hx] at hc
   obtain⟨cur,hcur,_⟩:=own_blk hr (g:=w.heap.size) rfl
   have hf:wr.frozen? ⟨w.heap.size,kn+j,none⟩=false:=by simp[World.frozen?,hcur]
   have hr2:=own_setIn (j:=kn+j) hr (.int .i64 1099511627783)
   rw[lentL_set K kn j hlt] at hr2
   have hb2:Below w.heap.size w (wr.setCell ⟨w.heap.size,kn+j,none⟩ (.int .i64 1099511627783)):=hb.setCell nlr _
   have HR:=hde (And.intro hb2 hr2)
   have hlz:((kn+j:Nat):Int) < ((kn+2:Nat):Int):=by omega
   have hl0:¬ ((kn+j:Nat):Int) < 0:=by omega
   obtain⟨q,hq⟩:∃ q,kn+j=q:=⟨_,rfl⟩
   have HQ:=hde hq
   rw[hq] at hc hf hlz hl0 HR ⊢
   clear hq hb hr hx hcur hr2 hb2
   go_wp2
   go_roundw
   case rel=>exact⟨j+1,by omega,by rw[← Nat.add_assoc,uh HQ];go_num,(uh HR).1,(uh HR).2⟩
   case measure=>have:=uh HQ;simp[intOf];omega
  ·obtain rfl:j=2:=by omega
   have HR:=hde (And.intro hr hb)
   clear hr hb
   have hnl:¬ ((kn+2:Nat):Int) < ((kn+2:Nat):Int):=by omega
   go_wp2
   go_ret
   exact⟨rfl,(uh HR).1,(uh HR).2⟩
end Go.Proofs.YteflnddphpjahaaGreatDoor.Dl
