import Derived.Test.YteflnddphpjahaaGreatDoorCnDlHtoDlI
set_option linter.unusedVariables false
set_option linter.unusedSimpArgs false
set_option maxRecDepth 100000
set_option maxHeartbeats 16000000
namespace Go.Proofs.YteflnddphpjahaaGreatDoor.Dl
open Go.RowKit
open Rd (strs drN own_setIn)
open Dk (Kept own_kept)
open Pk (blk_lt blk_ne own_blk own_lt own_sl)
theorem WAt.notI {w:World} {W:Nat} {vd vr:Value} {N:Nat} {vT vI:Value} {ht hi:List (Value × Int)} (h:WAt w W vd vr N vT vI ht hi) {g:Nat} {c:Array Value} {fr:Nat × Nat} (hg:w.heap[g]? = some (.cells c 3 fr)):W≠g∧vT.ownBlock≠some g∧vI.ownBlock≠some g∧∀ p ∈ ht,p.1.ownBlock≠some g:=by
 refine⟨blk_ne h.blk hg (by decide),fun e=>?_,fun e=>?_,fun p hp e=>?_⟩
 ·obtain⟨x,hx,_⟩:=own_blk h.rT e;exact blk_ne hx hg (by decide) rfl
 ·obtain⟨x,hx,_⟩:=own_blk h.rI e;exact blk_ne hx hg (by decide) rfl
 ·obtain⟨n,_,ho⟩:=(h.mT p hp).2.2
  obtain⟨x,hx,_⟩:=own_blk ho e;exact blk_ne hx hg (by decide) rfl
theorem WAt.appI {w w1:World} {W:Nat} {vd vr:Value} {N:Nat} {vT vI v':Value} {ht hi:List (Value × Int)} {u:Value} {m:Nat} (h:WAt w W vd vr N vT vI ht hi) (ho:w1.ownsRow 0 74 2 v' (hi.length+1) (hCells hi++[u,.int .i64 (m:Int)])) (hg:w.grownBy w1 vI.ownBlock) (hm:Mrk w 3 (.int .i64 (m:Int)) u) (hs:hi.length+1≤10000000) :
  WAt (w1.setCell ⟨W,7,none⟩ v') W vd vr N vT v' ht (hi++[(u,(m:Int))]):=by
 have hne:some W≠vI.ownBlock:=fun e=>by
  obtain⟨x,hx,_⟩:=own_blk h.rI e.symm;exact blk_ne hx h.blk (by decide) rfl
 have hb:w1.heap[W]? = some (.cells (wCells vd vr N vT vI) 98 (0,0)):=(hg.block W (blk_lt h.blk) hne).trans h.blk
 have hk:Kept w w1 (fun k=>vI.ownBlock≠some k):=Kept.grown hg (fun k h=>h)
 have row:∀ {e s n:Nat} {v:Value} {xs:List Value},w.ownsRow 0 e s v n xs→e≠74→e≠98→(w1.setCell ⟨W,7,none⟩ v').ownsRow 0 e s v n xs:=fun ho h1 h2=>by
  refine ownsRow_setCell_other (own_kept ho hk (fun g hg e2=>?_)) (fun e2=>?_) _
  ·obtain⟨x,hx,_⟩:=own_blk ho hg
   obtain⟨y,hy,_⟩:=own_blk h.rI e2
   exact blk_ne hx hy h1 rfl
  ·obtain⟨x,hx,_⟩:=own_blk ho e2
   exact blk_ne hx h.blk h2 rfl
 refine⟨by rw[heap_setCell_same w1 W 7 _ _ _ hb];rfl,row h.rT (by decide) (by decide),?_,fun p hp=>⟨(h.mT p hp).1,(h.mT p hp).2.1,by obtain⟨n,hn,ho⟩:=(h.mT p hp).2.2;exact⟨n,hn,row ho (by decide) (by decide)⟩⟩,fun p hp=>?_,h.small.1,h.small.2.1,by rw[List.length_append];exact hs⟩
 ·rw[hCells_snoc,List.length_append]
  refine ownsRow_setCell_other ho (fun e2=>?_) _
  obtain⟨x,hx,_⟩:=own_blk ho e2
  exact blk_ne hx hb (by decide) rfl
 ·rcases List.mem_append.1 hp with e | e
  ·obtain⟨n,hn,ho⟩:=h.mI p e;exact⟨n,hn,row ho (by decide) (by decide)⟩
  ·rw[List.mem_singleton.1 e]
   obtain⟨n,hn,ho⟩:=hm
   exact⟨n,hn,row ho (by decide) (by decide)⟩
theorem WAt.setI {w:World} {W:Nat} {vd vr:Value} {N:Nat} {vT vI:Value} {ht hi:List (Value × Int)} (h:WAt w W vd vr N vT vI ht hi) {g j:Nat} {c:Array Value} {fr:Nat × Nat} (hg:w.heap[g]? = some (.cells c 3 fr)) (hdis:∀ p ∈ hi,p.1.ownBlock≠some g) (u:Value):WAt (w.setCell ⟨g,j,none⟩ u) W vd vr N vT vI ht hi:=by
 obtain⟨n1,n2,n3,n4⟩:=h.notI hg
 have hk:Kept w (w.setCell ⟨g,j,none⟩ u) (fun j=>j≠g):=(Kept.refl w _).setCell (fun hk=>hk rfl) _
 exact⟨(hk.block W (blk_lt h.blk) n1).trans h.blk,own_kept h.rT hk (fun j hj e=>n2 (by rw[hj,e])),own_kept h.rI hk (fun j hj e=>n3 (by rw[hj,e])),fun p hp=>⟨(h.mT p hp).1,(h.mT p hp).2.1,(h.mT p hp).2.2.kept hk (fun j hj e=>n4 p hp (by rw[hj,e]))⟩,fun p hp=>(h.mI p hp).kept hk (fun j hj e=>hdis p hp (by rw[hj,e])),h.small⟩
def LnPost (w:World) (W g:Nat) (vd vr:Value) (N:Nat) (vT vI l:Value) (ht hi:List (Value × Int)) (e:Ending) (w':World):Prop :=
 e = .returned (.bool true)∧∃ vI' m,WAt w' W vd vr (N+1) vT vI' ht (hi++[(l,m)])∧Kept w w' (fun k=>k≠W∧vI.ownBlock≠some k∧k≠g)∧Nw w vI vI'
theorem lent_any (W:Nat) (vd vr:Value) (N:Nat) (vT vI:Value) (ht hi:List (Value × Int)) (g:Nat) (kpp:Option Addr) (kn kc:Nat) (K:Nat→Int) (w:World) (h:WAt w W vd vr N vT vI ht hi) (hN:N+1≤10000000) (hhi:hi.length+1≤10000000) (hl:w.ownsRow 0 3 1 (.slice (some ⟨g,0,none⟩) (kn+2) (kn+2)) (kn+2) (lentL K kn 2)) (hK:Rd.KpAt w kpp kn K) (hkn:kn≤1048576) (hdis:∀ p ∈ hi,p.1.ownBlock≠some g) :
  Calls Tryz.prog 140 #[.pointer (some ⟨W,2,none⟩),.slice (some ⟨g,0,none⟩) (kn+2) (kn+2),.slice kpp kn kc] w (LnPost w W g vd vr N vT vI (.slice (some ⟨g,0,none⟩) (kn+2) (kn+2)) ht hi):=by
 obtain⟨t2,ht2,hva,hvb,hvc⟩:=info_parts Tryz.info_hin
 have c2:=h.cell.2.2.1
 have f2:=h.fz 2
 have h1:=h.mark hN
 obtain⟨cur,hcur,_⟩:=own_blk hl (g:=g) rfl
 have hl1:(w.setCell ⟨W,2,none⟩ (.int .i64 ((N+1:Nat):Int))).ownsRow 0 3 1 (.slice (some ⟨g,0,none⟩) (kn+2) (kn+2)) (kn+2) (lentL K kn 2):=ownsRow_setCell_other hl (fun e2=>by obtain⟨x,hx,_⟩:=own_blk hl e2;exact blk_ne hx h.blk (by decide) rfl) _
 have hk1:Kept w (w.setCell ⟨W,2,none⟩ (.int .i64 ((N+1:Nat):Int))) (fun k=>k≠W∧vI.ownBlock≠some k∧k≠g):=(Kept.refl w _).setCell (fun hk=>hk.1 rfl) _
 have hmk:=markW_any W N w (by omega) c2 f2
 obtain⟨m,hm⟩:∃ m,1099511627783+(N+1)=m:=⟨_,rfl⟩
 rw[hm] at hmk
 have hm9:m≤4398046511104:=by omega
 obtain⟨q,hq⟩:∃ q,kn+2=q:=⟨_,rfl⟩
 have HQ:=hde hq
 have HW:=hde (And.intro h1 (And.intro hl1 (And.intro hk1 (And.intro hl (And.intro hK hdis)))))
 have HM:=hde hmk
 have hq9:q≤1048578:=by omega
 have hknq:kn≤q:=by omega
 rw[hq]
 rw[hq] at HW
 clear h hl h1 hl1 hk1 hK hdis hmk c2 f2 hm hq hcur
 go_enter Tryz.func140,Tryz.ntmps140
 go_wp2_with fail
 go_loopw [7,8] (fun ok i wr=>∃ k:Nat,k≤q∧ok = .bool true∧i = .int .i64 k∧wr=w) (fun _ i _=>q - (intOf i).toNat)
 case atStart=>exact⟨0,Nat.zero_le _,rfl,rfl,rfl⟩
 case round =>
  obtain⟨k,hk,rfl,rfl,hwr⟩:=hrel
  obtain rfl:=hwr.symm
  clear hwr
  by_cases hlt:k < q
  ·have hc:=(uh HW).2.2.2.1.cellAt k (by omega)
   rw[lentL_get K kn k (by have:=uh HQ;omega)] at hc
   have hkz:(k:Int) < (q:Int):=by omega
   have hk0:¬ (k:Int) < 0:=by omega
   by_cases hkk:k < kn
   ·rw[if_pos hkk] at hc
    obtain⟨g1,o1,rfl,_,hc1,_⟩:=(uh HW).2.2.2.2.1 k hkk
    have hkz2:(k:Int) < (kn:Int):=by omega
    obtain⟨x,hx⟩:∃ x,K k=x:=⟨_,rfl⟩
    rw[hx] at hc hc1
    have hxx:(x == x)=true:=beq_iff_eq.2 rfl
    clear hx
    go_wp2
    go_roundw
    case rel=>exact⟨k+1,by omega,rfl,by go_num,by first | rfl | trivial⟩
    case measure=>simp[intOf];omega
   ·rw[if_neg hkk] at hc
    have hkz2:¬ (k:Int) < (kn:Int):=by omega
    go_wp2
    go_roundw
    case rel=>exact⟨k+1,by omega,rfl,by go_num,by first | rfl | trivial⟩
    case measure=>simp[intOf];omega
  ·obtain rfl:k=q:=by omega
   have hmk:=uh HM
   go_wp2_with fail
   refine hmk.mono ?_
   rintro e w1 ⟨rfl,hw1⟩
   have HW1:Hid (WAt w1 W vd vr (N+1) vT vI ht hi∧w1.ownsRow 0 3 1 (.slice (some ⟨g,0,none⟩) k k) k (lentL K kn 2)∧Kept w w1 (fun k=>k≠W∧vI.ownBlock≠some k∧k≠g)):=by
    rw[hw1];exact hde ⟨(uh HW).1,(uh HW).2.1,(uh HW).2.2.1⟩
   have HD:=hde (uh HW).2.2.2.2.2
   have HL:Hid ((lentL K kn 2).length=k):=hde ((lentL_len K kn 2 (by omega)).trans (uh HQ))
   clear hw1 hmk HM HW
   go_wp2_with fail
   go_loopw [11] (fun i wr2=>∃ j:Nat,j≤k∧i = .int .i64 j∧WAt wr2 W vd vr (N+1) vT vI ht hi∧wr2.ownsRow 0 3 1 (.slice (some ⟨g,0,none⟩) k k) k (List.replicate j (.int .i64 (m:Int))++(lentL K kn 2).drop j)∧Kept w wr2 (fun k=>k≠W∧vI.ownBlock≠some k∧k≠g)) (fun i _=>k - (intOf i).toNat)
   case atStart=>exact⟨0,Nat.zero_le _,rfl,(uh HW1).1,by simpa using (uh HW1).2.1,(uh HW1).2.2⟩
   case round =>
    obtain⟨j,hj,rfl,h1,hv1,hk1⟩:=hrel
    by_cases hlt:j < k
    ·have hc0:=hv1.cellAt j (by omega)
     have hxk:(List.replicate j (Value.int .i64 (m:Int))++(lentL K kn 2).drop j)[j]? = some (.int .i64 (if j < kn then K j else 1099511627783)):=by
      rw[List.getElem?_append_right (by simp),List.length_replicate,Nat.sub_self,List.getElem?_drop,Nat.add_zero,lentL_get K kn j (by have:=uh HQ;omega)]
     rw[hxk] at hc0
     obtain⟨x,hx⟩:∃ x,(if j < kn then K j else 1099511627783)=x:=⟨_,rfl⟩
     rw[hx] at hc0
     obtain⟨cur,hcur,_⟩:=own_blk hv1 (g:=g) rfl
     have hf:=(by simp[World.frozen?,hcur]:wr.frozen? ⟨g,j,none⟩=false)
     have h3:=h1.setI (j:=j) hcur (uh HD) (.int .i64 (m:Int))
     have hv3:=own_setIn (j:=j) hv1 (.int .i64 (m:Int))
     rw[rep_set hlt (uh HL)] at hv3
     have hk3:Kept _ (wr.setCell ⟨g,j,none⟩ (.int .i64 (m:Int))) (fun k=>k≠W∧vI.ownBlock≠some k∧k≠g):=hk1.setCell (fun hk=>hk.2.2 rfl) _
     have H3:=hde (And.intro h3 (And.intro hv3 hk3))
     have hjz:(j:Int) < (k:Int):=by omega
     have hj0:¬ (j:Int) < 0:=by omega
     clear hxk hx hcur h1 hv1 hk1 h3 hv3 hk3
     go_wp2
     go_roundw
     case rel=>exact⟨j+1,by omega,by go_num,(uh H3).1,(uh H3).2.1,(uh H3).2.2⟩
     case measure=>simp[intOf];omega
    ·obtain rfl:j=k:=by omega
     have hv2:wr.ownsRow 0 3 1 (.slice (some ⟨g,0,none⟩) j j) j (List.replicate j (.int .i64 (m:Int))):=by
      rw[List.drop_of_length_le (by have:=uh HL;omega),List.append_nil] at hv1;exact hv1
     have c6:=h1.cell.2.2.2.2.2.2.2
     have f6:=h1.fz 7
     go_wp2_with (first
      | (at_builtin;go_must (refine wpList_append_lies _ rfl (.tmp 51) (.tmp 55) 27 rfl 0 74 t2 _ 2 32 Tryz.underlying27 ht2 hva hvb hvc rfl (by omega) vI _ _ rfl (h1.rI.alloc _) ⟨wr.heap.size,0,none⟩ 1 1 [.slice (some ⟨g,0,none⟩) j j,.int .i64 (m:Int)] rfl rfl (World.news_of_block (cs := #[.slice (some ⟨g,0,none⟩) j j,.int .i64 (m:Int)]) (t:=74) (fr:=(0,0)) (heap_alloc_new wr _)) (by simp[Value.oneCell']) (by omega) (by unfold maxLen;omega) (by omega) (Nat.zero_le _) (wr.heap.size+1) (by simp) ?_))
      | go_in)
     intro gg cp w2 hown2 hgrow2 hat2 hlt2
     have hba:Below wr.heap.size wr (wr.alloc (.cells #[.slice (some ⟨g,0,none⟩) j j,.int .i64 (m:Int)] 74)):=(Below.refl _ wr).alloc nlr _
     have ha:=h1.below hba
     have hne0:some W≠vI.ownBlock:=fun e=>by obtain⟨x,hx,_⟩:=own_blk h1.rI e.symm;exact blk_ne hx h1.blk (by decide) rfl
     have hWl:=blk_lt h1.blk
     have hq0:w2.cell? ⟨W,7,none⟩=some vI:=(hgrow2.cell_far ⟨W,7,none⟩ (by simp;omega) hne0).trans ha.cell.2.2.2.2.2.2.2
     have hq1:w2.frozen? ⟨W,7,none⟩=false:=(hgrow2.frozen_far ⟨W,7,none⟩ (by simp;omega) hne0).trans (ha.fz 7)
     have hmrk:Mrk (wr.alloc (.cells #[.slice (some ⟨g,0,none⟩) j j,.int .i64 (m:Int)] 74)) 3 (.int .i64 (m:Int)) (.slice (some ⟨g,0,none⟩) j j):=⟨j,by omega,obl hv2 hba⟩
     have h3:=ha.appI hown2 hgrow2 hmrk hhi
     have hk2:Kept wr (w2.setCell ⟨W,7,none⟩ (.slice (some ⟨gg,0,none⟩) (hi.length+1) cp)) (fun j=>j≠W∧vI.ownBlock≠some j):=((Kept.below hba _).trans (Kept.grown hgrow2 (fun j hj=>hj.2))).setCell (fun hk=>hk.1 rfl) _
     have hk3:=kept_then hk1 hk2 (fun j hj0 hj=>⟨hj.1,hj.2.1⟩)
     have hnI3:Nw w vI (.slice (some ⟨gg,0,none⟩) (hi.length+1) cp):=fun j hj=>by
      have e:gg=j:=by simpa [Value.ownBlock] using hj
      subst e
      rcases hat2 with q | q
      ·exact Or.inl q
      ·right;have:=hk1.size;omega
     have H3:=hde (And.intro h3 (And.intro hk3 hnI3))
     clear hown2 hgrow2 hat2 hlt2 hba ha hne0 hmrk h3 hk2 hk3 hnI3 h1 hv1 hv2 hk1 c6 f6
     go_wp2
     go_ret
     exact⟨rfl,_,_,(uh H3).1,(uh H3).2.1,(uh H3).2.2⟩
open Rd (strs drN Rk RAt rOwn)
open Pk (Pair Half Sm DAt dOwn blk_lt blk_ne own_blk own_lt own_sl NP)
theorem Inv.ptr2 {w0 w w':World} {W:Nat} {Ps:List Pr} {vd vr:Value} {N:Nat} {vT vI:Value} {ht hi:List (Value × Int)} {n b:Nat} (h:Inv w0 w W Ps vd vr N vT vI ht hi n b) (i:Nat) (hi':i < Ps.length) (hk:Kept w w' (fun k=>¬ (Ps[i]).O k)) :
  w'.cell? ⟨W,1,none⟩=some vr∧∃ g' cap',vr = .slice (some ⟨g',0,none⟩) Ps.length cap'∧w'.cell? ⟨g',i,none⟩=some (.pointer (some ⟨(Ps[i]).E,0,none⟩)):=by
 have hpi:=(h.pr Ps[i] (List.getElem_mem _)).1
 have hok:∀ k c t fr,w.heap[k]? = some (.cells c t fr)→t ∉ pTypes→¬ (Ps[i]).O k:=fun k c t fr hc ht=>not_own hpi hc ht
 have hrr:=own_kept h.rr hk (fun g hg=>by obtain⟨c,hc,_⟩:=own_blk h.rr hg;exact hok g c _ _ hc (by decide))
 refine⟨(h.wat.kept hk hok).cell.2.1,?_⟩
 obtain⟨p',cap',rfl,hc'⟩:=osl hrr
 obtain⟨g',hp',_,_,c0'⟩:=hc' i (by omega)
 subst hp'
 exact⟨g',cap',rfl,c0'.trans (by unfold rPs;rw[List.getElem?_map,List.getElem?_eq_getElem hi'];rfl)⟩
theorem keep_lent {w:World} {B g kn:Nat} {K:Nat→Int} (h:w.ownsRow B 3 1 (.slice (some ⟨g,0,none⟩) (kn+2) (kn+2)) (kn+2) (lentL K kn 2)) (hkn:kn≤1048576):Pk.KeepAt w (some ⟨g,0,none⟩) kn K:=by
 refine⟨fun j hj=>⟨g,0,rfl,?_,?_⟩,by omega⟩
 ·have:=h.cellAt j (by omega)
  rw[Nat.zero_add,this,lentL_get K kn j (by omega),if_pos hj]
 ·obtain⟨c,hc,_⟩:=own_blk h (g:=g) rfl;exact⟨c,_,hc⟩
theorem crashes_any (w0 w:World) (W:Nat) (Ps:List Pr) (vd vr:Value) (N:Nat) (vT vI:Value) (ht hi:List (Value × Int)) (n b i:Nat) (dir:Int) (kpp:Option Addr) (kn kc:Nat) (K:Nat→Int) (h:Inv w0 w W Ps vd vr N vT vI ht hi n b) (hil:i < Ps.length) (hn:n≤100000) (hb:b≤1048576) (hN:N+1≤10000000) (hhi:hi.length+1≤10000000) (hK:Rd.KpAt w0 kpp kn K) (hkn:kn≤1048576) :
  Calls Tryz.prog 91 #[.pointer (some ⟨W,0,none⟩),.int .i64 (i:Int),.int .i64 dir,.slice kpp kn kc] w (StPost w0 W Ps.length n b N ht.length hi.length):=by
 have hC1:=lend_any kpp kn kc K w (hK.below h.base) hkn
 have H:=hde h
 have HK:=hde hK
 clear h hK
 go_enter Tryz.func91,Tryz.ntmps91
 go_wp2_with fail
 refine hC1.mono ?_
 rintro e w1 ⟨rfl,hl1,hb1⟩
 have h1:=(uh H).below hb1
 obtain⟨g,cap,g',cap',e1,e2,q1,_⟩:=h1.ptr i hil
 have x0:=h1.wat.cell.1
 rw[e1] at x0
 have hiz:(i:Int) < (Ps.length:Int):=by omega
 have hi0:¬ (i:Int) < 0:=by omega
 have hC:∀ V,Below w1.heap.size w1 V→Calls Tryz.prog 138 #[.pointer (some ⟨(Ps[i]).D,0,none⟩),.int .i64 dir,.slice (some ⟨w.heap.size,0,none⟩) kn (kn+2)] V (NP w1 (Ps[i]).D (Ps[i]).E ((Ps[i]).R.crash dir (Rd.kp kn K)) (Ps[i]).R (Ps[i]).O):=fun V hV=>by
  obtain⟨hpr,hsm⟩:=h1.pr Ps[i] (List.getElem_mem _)
  exact Pk.p_crash dir _ kn (kn+2) K (hpr.half.below hV) hsm hn (keep_lent (obl hl1 hV) hkn)
 have H1:=hde (And.intro h1 (And.intro hl1 hb1))
 have HE:=hde e2
 have hb0:Below w1.heap.size w1 w1.drew:=(Below.refl _ w1).drew
 clear h1 hl1 hb1 e1 e2 hC1
 obtain⟨q,hq⟩:∃ q,kn+2=q:=⟨_,rfl⟩
 have HQ:=hde hq
 have hkq:kn≤q:=by omega
 have hkq2:q≤1048578:=by omega
 rw[hq]
 rw[hq] at hC H1
 clear hq
 go_wp2_with fail
 go_region_with (go_at_call 138;refine(hC _ hb0).mono ?_;rintro e w2 ⟨rfl,hh⟩)
 obtain⟨x1,g2,cap2,e2,q2⟩:=(uh H1).1.ptr2 i hil hh.kept
 rw[e2] at x1
 obtain⟨hpr,hsm⟩:=(uh H1).1.pr Ps[i] (List.getElem_mem _)
 have hrC:Calls Tryz.prog 139 #[.pointer (some ⟨(Ps[i]).E,0,none⟩),.int .i64 dir,.slice kpp kn kc] w2 (NP w1 (Ps[i]).D (Ps[i]).E ((Ps[i]).R.crash dir (Rd.kp kn K)) ((Ps[i]).R.crash dir (Rd.kp kn K)) (Ps[i]).O):=by
  have hO:∀ k,k < w0.heap.size→¬ (Ps[i]).O k:=fun k hk hO=>by have:=(uh H1).1.frm.ps Ps[i] (List.getElem_mem _) k hO;omega
  have hbs:=(uh H1).1.base
  have hbz:=hbs.size
  refine Pk.r_crash dir kpp kn kc K hh (hsm.fit hn hb hpr.ok.2) (fun j hj=>?_) (fun h0 g o e=>?_)
  ·obtain⟨g,o,e,hgl,hc,hr⟩:=uh HK j hj
   have e3:w2.heap[g]? = w0.heap[g]?:=(hh.kept.block g (by omega) (hO g hgl)).trans (hbs.block g hgl)
   refine⟨g,o,e,by have:=hh.kept.size;omega,?_,hr⟩
   have:w2.cell? ⟨g,o+j,none⟩=w0.cell? ⟨g,o+j,none⟩:=by simp only[World.cell?];rw[e3]
   exact this.trans hc
  ·obtain⟨g',o',e',hgl,_⟩:=uh HK 0 h0
   rw[e] at e'
   injection e' with e'
   injection e' with e'
   subst e'
   exact⟨by omega,hO g hgl⟩
 have HH:=hde hh
 have HS:=hde (hsm.crash hpr.ok.1 dir (Rd.kp kn K))
 clear hC hh e2 hpr hsm x0 q1 hb0
 go_wp2_with fail
 refine hrC.mono ?_
 rintro e w3 ⟨rfl,hh3⟩
 obtain⟨h1,hl1,hb1⟩:=uh H1
 obtain⟨O',hI⟩:=h1.step i hil hh3 (uh HS) nlr nlr
 have hno:∀ c fr,w1.heap[w.heap.size]? = some (.cells c 3 fr)→¬ (Ps[i]).O w.heap.size:=fun c fr hc=>not_own (h1.pr Ps[i] (List.getElem_mem _)).1 hc (by decide)
 have hl3:w3.ownsRow w.heap.size 3 1 (.slice (some ⟨w.heap.size,0,none⟩) q q) q (lentL K kn 2):=own_kept hl1 hh3.kept (fun g hg=>by
  obtain⟨c,hc,_⟩:=own_blk hl1 hg
  have e:w.heap.size=g:=by simpa [Value.ownBlock] using hg
  subst e
  exact hno c _ hc)
 have hdis:∀ p ∈ hi,p.1.ownBlock≠some w.heap.size:=fun p hp e=>by
  obtain⟨m,_,ho⟩:=(uh H).wat.mI p hp
  have:=own_lt ho e
  omega
 have hbz:=(uh H).base.size
 have hC4:=lent_any W vd vr N vT vI ht hi w.heap.size kpp kn kc K w3 hI.wat hN hhi (by rw[uh HQ];exact Pk.own_le hl3 (Nat.zero_le _)) ((uh HK).below hI.base) hkn hdis
 rw[uh HQ] at hC4
 have HI:=hde (And.intro hI hl3)
 clear h1 hl1 hb1 hI hno hl3 hdis hh3 hrC x1 q2
 go_wp2_with fail
 refine hC4.mono ?_
 rintro e w4 ⟨rfl,vI',m,hw4,hk4,hnI⟩
 have HR:Hid (StPost w0 W Ps.length n b N ht.length hi.length (.returned (.bool true)) w4):=by
  obtain⟨hI,hl3⟩:=uh HI
  have hz3:=hI.base.size
  refine hde ⟨rfl,_,_,_,_,_,_,_,_,hI.held hw4 hk4 (fun k c t fr hc ht=>?_) (fun k hk=>?_) hI.frm.vT (fun j hj=>?_) hI.frm.ht (fun p hp j hj=>?_),List.length_set,by omega,by omega,by rw[List.length_append];exact Nat.le_refl _⟩
  ·have hp:=not_pT ht
   obtain⟨cur,hcur,_⟩:=own_blk hl3 (g:=w.heap.size) rfl
   exact⟨fun e=>blk_ne hc hI.wat.blk hp.1 e,fun e=>by obtain⟨x,hx,_⟩:=own_blk hI.wat.rI e;exact blk_ne hc hx hp.2.2.2.1 rfl,fun e=>blk_ne hc hcur hp.2.2.2.2 e⟩
  ·have:=hI.frm.W
   exact⟨by omega,fun e=>by have:=hI.frm.vI k e;omega,by omega⟩
  ·rcases hnI j hj with q | q
   ·exact hI.frm.vI j q
   ·omega
  ·rcases List.mem_append.1 hp with e | e
   ·exact hI.frm.hi p e j hj
   ·rw[List.mem_singleton.1 e] at hj
    have e:w.heap.size=j:=by simpa [Value.ownBlock] using hj
    omega
 clear hw4 hk4 hnI hC4
 go_wp2
 go_ret
 exact uh HR
end Go.Proofs.YteflnddphpjahaaGreatDoor.Dl
