import Derived.Test.YteflnddphpjahaaGreatDoorCnDlDtoDlE
import Derived.Test.YteflnddphpjahaaGreatDoorCnDtAtoDtB
import Derived.Deep.Cut
set_option linter.unusedVariables false
set_option linter.unusedSimpArgs false
set_option maxRecDepth 100000
set_option maxHeartbeats 16000000
namespace Go.Proofs.YteflnddphpjahaaGreatDoor.Dl
open Go.RowKit
open Rd (strs drN own_setIn)
open Dk (Kept own_kept)
open Pk (blk_lt blk_ne own_blk own_lt own_sl)
theorem Tryz.info_htx:(Tryz.prog.info? 71).map (fun i=>(i.zero,i.size,i.bytes))=some (some (.agg #[.slice none 0 0,.int .i64 0]),2,32):=by kernel_rfl
theorem kept_then {w wr w2:World} {ok ok2:Nat→Prop} (h:Kept w wr ok) (k:Kept wr w2 ok2) (hh:∀ i,i < w.heap.size→ok i→ok2 i):Kept w w2 ok:=by
 have hs:=h.size
 exact⟨k.os.trans h.os,k.tape.trans h.tape,k.output.trans h.output,Nat.le_trans hs k.size,fun i hi ho=>(k.block i (by omega) (hh i hi ho)).trans (h.block i hi ho)⟩
theorem WAt.keptX {w w':World} {W:Nat} {vd vr:Value} {N:Nat} {vT vI:Value} {ht hi:List (Value × Int)} {ok:Nat→Prop} (h:WAt w W vd vr N vT vI ht hi) (hk:Kept w w' ok) (hW:ok W) (h1:∀ g,vT.ownBlock=some g→ok g) (h2:∀ g,vI.ownBlock=some g→ok g) (h3:∀ p ∈ ht,Mrk w' 9 (.string (mt p.2.toNat)) p.1) (h4:∀ p ∈ hi,∀ g,p.1.ownBlock=some g→ok g):WAt w' W vd vr N vT vI ht hi :=
 ⟨(hk.block W (blk_lt h.blk) hW).trans h.blk,own_kept h.rT hk h1,own_kept h.rI hk h2,fun p hp=>⟨(h.mT p hp).1,(h.mT p hp).2.1,h3 p hp⟩,fun p hp=>(h.mI p hp).kept hk (h4 p hp),h.small⟩
theorem WAt.notS {w:World} {W:Nat} {vd vr:Value} {N:Nat} {vT vI:Value} {ht hi:List (Value × Int)} (h:WAt w W vd vr N vT vI ht hi) {g:Nat} {c:Array Value} {fr:Nat × Nat} (hg:w.heap[g]? = some (.cells c 9 fr)):W≠g∧vT.ownBlock≠some g∧vI.ownBlock≠some g∧∀ p ∈ hi,p.1.ownBlock≠some g:=by
 refine⟨blk_ne h.blk hg (by decide),fun e=>?_,fun e=>?_,fun p hp e=>?_⟩
 ·obtain⟨x,hx,_⟩:=own_blk h.rT e;exact blk_ne hx hg (by decide) rfl
 ·obtain⟨x,hx,_⟩:=own_blk h.rI e;exact blk_ne hx hg (by decide) rfl
 ·obtain⟨n,_,ho⟩:=h.mI p hp
  obtain⟨x,hx,_⟩:=own_blk ho e;exact blk_ne hx hg (by decide) rfl
theorem markW_any (W N:Nat) (w:World) (hN:N≤10000000) (c2:w.cell? ⟨W,2,none⟩=some (.int .i64 N)) (f2:w.frozen? ⟨W,2,none⟩=false) :
  Calls Tryz.prog 59 #[.pointer (some ⟨W,2,none⟩)] w fun e w'=>e = .returned (.int .i64 ((1099511627783+(N+1):Nat):Int))∧w'=w.setCell ⟨W,2,none⟩ (.int .i64 ((N+1:Nat):Int)):=by
 go_enter Tryz.func59,Tryz.ntmps59
 go_wp2
 go_ret
 exact⟨by go_num,by go_num⟩
theorem WAt.mark {w:World} {W:Nat} {vd vr:Value} {N:Nat} {vT vI:Value} {ht hi:List (Value × Int)} (h:WAt w W vd vr N vT vI ht hi) (hN:N+1≤10000000):WAt (w.setCell ⟨W,2,none⟩ (.int .i64 ((N+1:Nat):Int))) W vd vr (N+1) vT vI ht hi:=by
 have ne:∀ {e s n:Nat} {v:Value} {xs:List Value},w.ownsRow 0 e s v n xs→e≠98→(w.setCell ⟨W,2,none⟩ (.int .i64 ((N+1:Nat):Int))).ownsRow 0 e s v n xs:=fun ho hne=>ownsRow_setCell_other ho (fun e2=>by obtain⟨x,hx,_⟩:=own_blk ho e2;exact blk_ne hx h.blk hne rfl) _
 exact⟨by rw[heap_setCell_same w W 2 _ _ _ h.blk];rfl,ne h.rT (by decide),ne h.rI (by decide),fun p hp=>⟨(h.mT p hp).1,(h.mT p hp).2.1,by obtain⟨n,hn,ho⟩:=(h.mT p hp).2.2;exact⟨n,hn,ne ho (by decide)⟩⟩,fun p hp=>by obtain⟨n,hn,ho⟩:=h.mI p hp;exact⟨n,hn,ne ho (by decide)⟩,hN,h.small.2⟩
def Ls (w:World) (u:Value) (c:Nat) (L:List (Value × Int)):Prop := ∀ p ∈ L,∃ n,n≤2000000∧w.ownsRow 0 9 1 p.1 n (List.replicate n (.string (mt p.2.toNat)))∧(p.1.ownBlock=u.ownBlock→p.1.ownBlock=none∨n≤c)
theorem Ls.mrk {w:World} {u:Value} {c:Nat} {L:List (Value × Int)} (h:Ls w u c L):∀ p ∈ L,Mrk w 9 (.string (mt p.2.toNat)) p.1:=fun p hp=>by
 obtain⟨n,hn,ho,_⟩:=h p hp;exact⟨n,hn,ho⟩
theorem Ls.kept {w w':World} {u:Value} {c:Nat} {L:List (Value × Int)} {ok:Nat→Prop} (h:Ls w u c L) (hk:Kept w w' ok) (hok:∀ g x fr,w.heap[g]? = some (.cells x 9 fr)→ok g):Ls w' u c L:=fun p hp=>by
 obtain⟨n,hn,ho,hc⟩:=h p hp
 exact⟨n,hn,own_kept ho hk (fun g hg=>by obtain⟨x,hx,_⟩:=own_blk ho hg;exact hok g x _ hx),hc⟩
theorem rep_set {k n:Nat} {xs:List Value} {u:Value} (hk:k < n) (hx:xs.length=n):(List.replicate k u++xs.drop k).set k u=List.replicate (k+1) u++xs.drop (k+1):=by
 rw[List.set_append_right _ _ (by simp),List.length_replicate,Nat.sub_self,List.drop_eq_getElem_cons (by omega),List.set_cons_zero,List.replicate_succ',List.append_assoc]
 rfl
theorem WAt.app {w w1:World} {W:Nat} {vd vr:Value} {N:Nat} {vT vI v':Value} {ht hi:List (Value × Int)} {u:Value} {m:Nat} (h:WAt w W vd vr N vT vI ht hi) (ho:w1.ownsRow 0 71 2 v' (ht.length+1) (hCells ht++[u,.int .i64 (m:Int)])) (hg:w.grownBy w1 vT.ownBlock) (hm:Mrk w 9 (.string (mt m)) u) (hm9:m≤4398046511104) (hs:ht.length+1≤10000000) :
  WAt (w1.setCell ⟨W,6,none⟩ v') W vd vr N v' vI (ht++[(u,(m:Int))]) hi:=by
 have hne:some W≠vT.ownBlock:=fun e=>by
  obtain⟨x,hx,_⟩:=own_blk h.rT e.symm;exact blk_ne hx h.blk (by decide) rfl
 have hb:w1.heap[W]? = some (.cells (wCells vd vr N vT vI) 98 (0,0)):=(hg.block W (blk_lt h.blk) hne).trans h.blk
 have hk:Kept w w1 (fun k=>vT.ownBlock≠some k):=Kept.grown hg (fun k h=>h)
 have row:∀ {e s n:Nat} {v:Value} {xs:List Value},w.ownsRow 0 e s v n xs→e≠71→e≠98→(w1.setCell ⟨W,6,none⟩ v').ownsRow 0 e s v n xs:=fun ho h1 h2=>by
  refine ownsRow_setCell_other (own_kept ho hk (fun g hg e2=>?_)) (fun e2=>?_) _
  ·obtain⟨x,hx,_⟩:=own_blk ho hg
   obtain⟨y,hy,_⟩:=own_blk h.rT e2
   exact blk_ne hx hy h1 rfl
  ·obtain⟨x,hx,_⟩:=own_blk ho e2
   exact blk_ne hx h.blk h2 rfl
 refine⟨by rw[heap_setCell_same w1 W 6 _ _ _ hb];rfl,?_,row h.rI (by decide) (by decide),fun p hp=>?_,fun p hp=>by obtain⟨n,hn,ho⟩:=h.mI p hp;exact⟨n,hn,row ho (by decide) (by decide)⟩,h.small.1,by rw[List.length_append];exact hs,h.small.2.2⟩
 ·rw[hCells_snoc,List.length_append]
  refine ownsRow_setCell_other ho (fun e2=>?_) _
  obtain⟨x,hx,_⟩:=own_blk ho e2
  exact blk_ne hx hb (by decide) rfl
 ·rcases List.mem_append.1 hp with e | e
  ·refine⟨(h.mT p e).1,(h.mT p e).2.1,?_⟩
   obtain⟨n,hn,ho⟩:=(h.mT p e).2.2;exact⟨n,hn,row ho (by decide) (by decide)⟩
  ·rw[List.mem_singleton.1 e]
   obtain⟨n,hn,ho⟩:=hm
   exact⟨by show (0:Int)≤(m:Int);omega,by show (m:Int)≤_;omega,n,hn,by show World.ownsRow _ 0 _ 1 u n _;rw[Int.toNat_natCast];exact row ho (by decide) (by decide)⟩
def tk (W:Nat) (vT v:Value) (k:Nat):Prop:=k≠W∧vT.ownBlock≠some k∧v.ownBlock≠some k
def Nw (w:World) (x0 x:Value):Prop := ∀ g,x.ownBlock=some g→x0.ownBlock=some g∨w.heap.size≤g
def TxPost (w:World) (W:Nat) (vd vr:Value) (N:Nat) (vT vI v:Value) (ht hi:List (Value × Int)) (e:Ending) (w':World):Prop :=
 e = .returned (.tuple #[])∧∃ vT' new,WAt w' W vd vr (N+1) vT' vI (ht++new) hi∧new.length=4∧Kept w w' (tk W vT v)∧Nw w vT vT'∧∀ p ∈ new,Nw w v p.1
theorem Ls.next {w w5:World} {u v5:Value} {c:Nat} {L:List (Value × Int)} (h:Ls w u c L) (hg:w.grownBy w5 u.ownBlock) (hat:v5.ownBlock=u.ownBlock∨v5.ownBlock=some w.heap.size)
  (hk:∀ (B':Nat) (x:Value) (n':Nat) (ys:List Value),n'≤c→x.ownBlock=u.ownBlock→w.ownsRow B' 9 1 x n' ys→w5.ownsRow B' 9 1 x n' ys):Ls w5 v5 (c+1) L:=fun p hp=>by
 obtain⟨n,hn,ho,hc⟩:=h p hp
 refine⟨n,hn,?_,fun e=>?_⟩
 ·by_cases e:p.1.ownBlock=u.ownBlock
  ·rcases hc e with q | q
   ·exact own_kept ho (Kept.grown hg (ok:=fun k=>u.ownBlock≠some k) (fun k h=>h)) (fun g hg2=>by rw[q] at hg2;cases hg2)
   ·exact hk 0 p.1 n _ q e ho
  ·exact own_kept ho (Kept.grown hg (ok:=fun k=>u.ownBlock≠some k) (fun k h=>h)) (fun g hg2 e2=>e (hg2.trans e2.symm))
 ·rcases hat with q | q
  ·rw[q] at e
   rcases hc e with q2 | q2
   ·exact Or.inl q2
   ·exact Or.inr (by omega)
  ·rw[q] at e
   have:=own_lt ho e
   omega
theorem texts_any (W:Nat) (vd vr:Value) (N:Nat) (vT vI v:Value) (ht hi:List (Value × Int)) (n:Nat) (xs:List Value) (w:World) (h:WAt w W vd vr N vT vI ht hi) (hN:N+1≤10000000) (hht:ht.length+4≤10000000) (hv:w.ownsRow 0 9 1 v n xs) (hn:n≤1000000) (hx1:∀ x ∈ xs,∃ s,x = .string s) (hdis:∀ p ∈ ht,∀ g,p.1.ownBlock=some g→v.ownBlock≠some g) :
  Calls Tryz.prog 98 #[.pointer (some ⟨W,2,none⟩),v] w (TxPost w W vd vr N vT vI v ht hi):=by
 obtain⟨t2,ht2,hva,hvb,hvc⟩:=info_parts Tryz.info_htx
 obtain⟨t1,ht1,hua,hub,huc⟩:=info_parts Rd.Tryz.info_rstr
 have c2:=h.cell.2.2.1
 have f2:=h.fz 2
 have h1:=h.mark hN
 have hv1:(w.setCell ⟨W,2,none⟩ (.int .i64 ((N+1:Nat):Int))).ownsRow 0 9 1 v n xs:=ownsRow_setCell_other hv (fun e2=>by obtain⟨x,hx,_⟩:=own_blk hv e2;exact blk_ne hx h.blk (by decide) rfl) _
 have hk1:Kept w (w.setCell ⟨W,2,none⟩ (.int .i64 ((N+1:Nat):Int))) (tk W vT v):=(Kept.refl w _).setCell (fun hk=>hk.1 rfl) _
 have hvl:∀ g,v.ownBlock=some g→g < w.heap.size:=fun g hg=>own_lt hv hg
 have hxl:xs.length=n:=by simpa using hv.1
 obtain⟨p,cap,rfl⟩:=own_sl hv
 have hmk:=markW_any W N w (by omega) c2 f2
 obtain⟨m,hm⟩:∃ m,1099511627783+(N+1)=m:=⟨_,rfl⟩
 rw[hm] at hmk
 have hm9:m≤4398046511104:=by omega
 have HW:=hde (And.intro h1 (And.intro hv1 hk1))
 have hMT:=fun V=>markText_any m V hm9
 clear h hv h1 hv1 hk1 c2 f2 hm
 go_enter Tryz.func98,Tryz.ntmps98
 go_wp2_with fail
 refine hmk.mono ?_
 rintro e w1 ⟨rfl,hw1⟩
 rw[← hw1] at HW
 clear hw1 hmk
 go_wp2_with fail
 go_loopw [5] (fun i wr=>∃ k:Nat,k≤n∧i = .int .i64 k∧WAt wr W vd vr (N+1) vT vI ht hi∧wr.ownsRow 0 9 1 (.slice p n cap) n (List.replicate k (.string (mt m))++xs.drop k)∧Kept w wr (tk W vT (.slice p n cap))) (fun i _=>n - (intOf i).toNat)
 case atStart=>exact⟨0,Nat.zero_le _,rfl,(uh HW).1,by simpa using (uh HW).2.1,(uh HW).2.2⟩
 case round =>
  obtain⟨k,hk,rfl,h1,hv1,hk1⟩:=hrel
  by_cases hlt:k < n
  ·obtain⟨_,_,hpe,hcs⟩:=osl hv1
   obtain⟨g,hp,_,hgl,hc0⟩:=hcs k (by omega)
   injection hpe with a1 a2 a3
   subst a1 a3
   subst hp
   have hxk:(List.replicate k (Value.string (mt m))++xs.drop k)[k]? = some xs[k]:=by
    rw[List.getElem?_append_right (by simp),List.length_replicate,Nat.sub_self,List.getElem?_drop,Nat.add_zero,List.getElem?_eq_getElem (by omega)]
   rw[hxk] at hc0
   obtain⟨s0,hs0⟩:=hx1 xs[k] (List.getElem_mem _)
   rw[hs0] at hc0
   obtain⟨cur,hcur,_⟩:=own_blk hv1 (g:=g) rfl
   have H1:=hde (And.intro h1 (And.intro hv1 (And.intro hk1 hcur)))
   have hkz:(k:Int) < (n:Int):=by omega
   clear h1 hv1 hk1 hcs hxk hs0
   go_wp2_with fail
   refine(hMT _).mono ?_
   rintro e w2 ⟨rfl,hb2⟩
   obtain⟨h1,hv1,hk1,hcur⟩:=uh H1
   have hc2:w2.cell? ⟨g,k,none⟩=some (.string s0):=(hb2.cell (p:=⟨g,k,none⟩) hgl).trans hc0
   have hcu2:=(hb2.block g hgl).trans hcur
   have hf2:w2.frozen? ⟨g,k,none⟩=false:=by simp[World.frozen?,hcu2]
   have h2:=h1.below hb2
   obtain⟨n1,n2,n3,n4⟩:=h2.notS hcu2
   have hkS:Kept w2 (w2.setCell ⟨g,k,none⟩ (.string (mt m))) (fun j=>j≠g):=(Kept.refl w2 _).setCell (fun hk=>hk rfl) _
   have h3:=h2.keptX hkS n1 (fun j hj e=>n2 (by rw[hj,e])) (fun j hj e=>n3 (by rw[hj,e])) (fun q hq=>(h2.mT q hq).2.2.kept hkS (fun j hj e=>hdis q hq j hj (by rw[e];rfl))) (fun q hq j hj e=>n4 q hq (by rw[hj,e]))
   have hv3:=own_setIn (j:=k) (obl hv1 hb2) (.string (mt m))
   rw[rep_set hlt hxl] at hv3
   have hk3:=kept_then hk1 ((Kept.below hb2 (fun j=>j≠g)).trans hkS) (fun j _ hj e=>hj.2.2 (by rw[e];rfl))
   have H3:=hde (And.intro h3 (And.intro hv3 hk3))
   clear h1 hv1 hk1 hcur hb2 hcu2 h2 n1 n2 n3 n4 hkS h3 hv3 hk3 hc0
   go_wp2
   go_roundw
   case rel=>exact⟨k+1,by omega,by go_num,(uh H3).1,(uh H3).2.1,(uh H3).2.2⟩
   case measure=>simp[intOf];omega
  ·obtain rfl:k=n:=by omega
   have hv2:wr.ownsRow 0 9 1 (.slice p k cap) k (List.replicate k (.string (mt m))):=by
    rw[List.drop_of_length_le (by omega),List.append_nil] at hv1;exact hv1
   have hls0:Ls wr (.slice p k cap) k ht:=fun q hq=>by
    obtain⟨n',hn',ho'⟩:=(h1.mT q hq).2.2
    refine⟨n',hn',ho',fun e=>?_⟩
    cases hqo:q.1.ownBlock with
    | none=>exact Or.inl rfl
    | some g=>exact absurd (e.symm.trans hqo) (hdis q hq g hqo)
   have H1:=hde (And.intro h1 (And.intro hv2 (And.intro hk1 hls0)))
   clear h1 hv1 hv2 hk1 hls0
   go_wp2_with fail
   go_loopw [6,7] (fun gv j wr=>∃ (r:Nat) (vT':Value) (new:List (Value × Int)),r≤3∧j = .int .i64 r∧new.length=r∧WAt wr W vd vr (N+1) vT' vI (ht++new) hi∧wr.ownsRow 0 9 1 gv (k+r) (List.replicate (k+r) (.string (mt m)))∧Ls wr gv (k+r) (ht++new)∧Kept w wr (tk W vT (.slice p k cap))∧Nw w vT vT'∧Nw w (.slice p k cap) gv∧∀ q ∈ new,Nw w (.slice p k cap) q.1) (fun _ j _=>3 - (intOf j).toNat)
   case atStart=>exact⟨0,vT,[],by omega,rfl,rfl,by simpa using (uh H1).1,(uh H1).2.1,by simpa using (uh H1).2.2.2,(uh H1).2.2.1,fun g hg=>Or.inl hg,fun g hg=>Or.inl hg,fun q hq=>(by cases hq)⟩
   case round =>
    obtain⟨r,vT',new,hr,rfl,hlen,h1,hv2,hls,hk1,hnT,hnG,hnew⟩:=hrel
    obtain⟨p6,cap6,rfl⟩:=own_sl hv2
    have c6:=h1.cell.2.2.2.2.2.2.1
    have f6:=h1.fz 6
    have hal:(ht++new).length≤9999999:=by rw[List.length_append,hlen];omega
    obtain⟨Lx,hLx⟩:∃ Lx,ht++new=Lx:=⟨_,rfl⟩
    rw[hLx] at h1 hls hal
    have HLX:=hde hLx
    have HLN:=hde hlen
    clear hLx hlen
    by_cases hlt:r < 3
    ·have hr3:(r:Int) < 3:=by omega
     go_wp2_with (first
      | (at_builtin;go_must (refine wpList_append_lies _ rfl (.tmp 30) (.tmp 34) 26 rfl 0 71 t2 _ 2 32 Tryz.underlying26 ht2 hva hvb hvc rfl (by omega) vT' _ _ rfl (h1.rT.alloc _) ⟨wr.heap.size,0,none⟩ 1 1 [.slice p6 (k+r) cap6,.int .i64 (m:Int)] rfl rfl (World.news_of_block (cs := #[.slice p6 (k+r) cap6,.int .i64 (m:Int)]) (t:=71) (fr:=(0,0)) (heap_alloc_new wr _)) (by simp[Value.oneCell']) (by omega) (by unfold maxLen;omega) (by omega) (Nat.zero_le _) (wr.heap.size+1) (by simp) ?_))
      | go_in)
     intro gg cp w2 hown2 hgrow2 hat2 hlt2
     have hba:Below wr.heap.size wr (wr.alloc (.cells #[.slice p6 (k+r) cap6,.int .i64 (m:Int)] 71)):=(Below.refl _ wr).alloc nlr _
     have ha:=h1.below hba
     have hne0:some W≠vT'.ownBlock:=fun e=>by obtain⟨x,hx,_⟩:=own_blk h1.rT e.symm;exact blk_ne hx h1.blk (by decide) rfl
     have hWl:=blk_lt h1.blk
     have hq0:w2.cell? ⟨W,6,none⟩=some vT':=(hgrow2.cell_far ⟨W,6,none⟩ (by simp;omega) hne0).trans ha.cell.2.2.2.2.2.2.1
     have hq1:w2.frozen? ⟨W,6,none⟩=false:=(hgrow2.frozen_far ⟨W,6,none⟩ (by simp;omega) hne0).trans (ha.fz 6)
     have hva2:=obl hv2 hba
     have hmrk:Mrk (wr.alloc (.cells #[.slice p6 (k+r) cap6,.int .i64 (m:Int)] 71)) 9 (.string (mt m)) (.slice p6 (k+r) cap6):=⟨k+r,by omega,hva2⟩
     have h3:=ha.app hown2 hgrow2 hmrk hm9 (by omega)
     have hk2:Kept wr (w2.setCell ⟨W,6,none⟩ (.slice (some ⟨gg,0,none⟩) (Lx.length+1) cp)) (fun j=>j≠W∧vT'.ownBlock≠some j):=((Kept.below hba _).trans (Kept.grown hgrow2 (fun j hj=>hj.2))).setCell (fun hk=>hk.1 rfl) _
     have hstr:∀ j x fr,wr.heap[j]? = some (.cells x 9 fr)→(j≠W∧vT'.ownBlock≠some j):=fun j x fr hj=>⟨fun e=>(h1.notS hj).1 e.symm,(h1.notS hj).2.1⟩
     have hv3:=own_kept hv2 hk2 (fun j hj=>by obtain⟨x,hx,_⟩:=own_blk hv2 hj;exact hstr j x _ hx)
     have hk3:=kept_then hk1 hk2 (fun j hj0 hj=>⟨hj.1,fun e=>by rcases hnT j e with q | q;exact hj.2.1 q;omega⟩)
     have hnT3:Nw w vT (.slice (some ⟨gg,0,none⟩) (Lx.length+1) cp):=fun j hj=>by
      have e:gg=j:=by simpa [Value.ownBlock] using hj
      subst e
      rcases hat2 with q | q
      ·exact hnT gg q
      ·right;have:=hk1.size;omega
     have hls3:Ls (w2.setCell ⟨W,6,none⟩ (.slice (some ⟨gg,0,none⟩) (Lx.length+1) cp)) (.slice p6 (k+r) cap6) (k+r) (Lx++[(.slice p6 (k+r) cap6,(m:Int))]):=fun q hq=>by
      rcases List.mem_append.1 hq with e | e
      ·exact(hls.kept hk2 hstr) q e
      ·rw[List.mem_singleton.1 e]
       exact⟨k+r,by omega,by show World.ownsRow _ 0 _ 1 (.slice p6 (k+r) cap6) _ _;rw[Int.toNat_natCast];exact hv3,fun _=>Or.inr nlr⟩
     have hnew3:∀ q ∈ new++[((.slice p6 (k+r) cap6:Value),(m:Int))],Nw w (.slice p k cap) q.1:=fun q hq=>by
      rcases List.mem_append.1 hq with e | e
      ·exact hnew q e
      ·rw[List.mem_singleton.1 e];exact hnG
     have eL:Lx++[((.slice p6 (k+r) cap6:Value),(m:Int))]=ht++(new++[((.slice p6 (k+r) cap6:Value),(m:Int))]):=by rw[← uh HLX,List.append_assoc]
     rw[eL] at h3 hls3
     clear eL
     have H3:=hde (And.intro h3 (And.intro hv3 (And.intro hls3 (And.intro hk3 (And.intro hnT3 (And.intro hnG hnew3))))))
     clear hown2 hgrow2 hat2 hlt2 hba ha hne0 hva2 hmrk h3 hk2 hstr hv3 hk3 hnT3 hls3 hnew3 h1 hv2 hls hk1 hnT hnG hnew c6 f6
     go_upto_region 10 with (fail)
     clear hq0 hq1
     generalize (w2.setCell ⟨W,6,none⟩ (.slice (some ⟨gg,0,none⟩) (Lx.length+1) cp))=V at H3 ⊢
     go_wp2_with fail
     refine(hMT _).mono ?_
     rintro e w4 ⟨rfl,hb4⟩
     obtain⟨h3,hv3,hls3,hk3,hnT3,hnG,hnew3⟩:=uh H3
     have hv4:=obl hv3 hb4
     go_wp2_with (first
      | (at_builtin;go_must (refine wpList_append_keeps _ rfl (.tmp 38) (.tmp 41) 69 rfl 0 9 t1 _ 1 16 Tryz.underlying69 ht1 hua hub huc rfl (by omega) _ _ _ rfl (hv4.alloc _) ⟨w4.heap.size,0,none⟩ 1 1 (by omega) [.string (mt m)] rfl rfl (World.news_of_block (cs := #[.string (mt m)]) (t:=9) (fr:=(0,0)) (heap_alloc_new w4 _)) (by simp[Value.oneCell']) (by unfold maxLen;omega) (by omega) (Nat.zero_le _) ?_))
      | go_in)
     intro v5 w5 hl5 hg5 hat5 hk5
     have hba:Below V.heap.size V (w4.alloc (.cells #[.string (mt m)] 9)):=hb4.alloc hb4.size _
     have h4:=h3.below hba
     have hvA:=obl hv3 hba
     have hls5:=(hls3.kept (Kept.below hba (fun _=>True)) (fun _ _ _ _=>trivial)).next hg5 (by simpa using hat5) hk5
     have hkg:Kept (w4.alloc (.cells #[.string (mt m)] 9)) w5 (fun j=>(Value.slice p6 (k+r) cap6).ownBlock≠some j):=Kept.grown hg5 (fun j hj=>hj)
     have hno:∀ j,(Value.slice p6 (k+r) cap6).ownBlock=some j→_:=fun j hj=>h4.notS (own_blk hvA hj).choose_spec.1
     have h5:=h4.keptX hkg (fun e=>(hno W e).1 rfl) (fun j hj e=>(hno j e).2.1 hj) (fun j hj e=>(hno j e).2.2.1 hj) hls5.mrk (fun q hq j hj e=>(hno j e).2.2.2 q hq hj)
     have hk5':=kept_then hk3 ((Kept.below hba _).trans hkg) (fun j hj0 hj e=>by rcases hnG j e with q | q;exact hj.2.2 q;omega)
     have hnG5:Nw w (.slice p k cap) v5:=fun j hj=>by
      rcases hat5 with q | q
      ·exact hnG j (q ▸ hj)
      ·rw[q] at hj
       have:=Option.some.inj hj
       have h9:=hk3.size
       have h8:=hb4.size
       right;first | omega | (simp at this;omega)
     rw[← List.replicate_succ'] at hl5
     have HR:=hde (And.intro h5 (And.intro hl5 (And.intro hls5 (And.intro hk5' (And.intro hnT3 (And.intro hnG5 hnew3))))))
     clear h3 hv3 hls3 hk3 hnT3 hnG hnew3 hv4 hba h4 hvA hls5 hkg hno h5 hk5' hnG5 hl5 hg5 hat5 hk5 hb4
     go_wp2
     go_roundw
     case rel=>exact⟨r+1,_,_,by omega,by go_num,by rw[List.length_append,uh HLN];rfl,(uh HR).1,(uh HR).2.1,(uh HR).2.2.1,(uh HR).2.2.2.1,(uh HR).2.2.2.2.1,(uh HR).2.2.2.2.2.1,(uh HR).2.2.2.2.2.2⟩
     case measure=>simp[intOf];omega
    ·obtain rfl:r=3:=by omega
     go_wp2_with (first
      | (at_builtin;go_must (refine wpList_append_lies _ rfl (.tmp 47) (.tmp 51) 26 rfl 0 71 t2 _ 2 32 Tryz.underlying26 ht2 hva hvb hvc rfl (by omega) vT' _ _ rfl (h1.rT.alloc _) ⟨wr.heap.size,0,none⟩ 1 1 [.slice p6 (k+3) cap6,.int .i64 (m:Int)] rfl rfl (World.news_of_block (cs := #[.slice p6 (k+3) cap6,.int .i64 (m:Int)]) (t:=71) (fr:=(0,0)) (heap_alloc_new wr _)) (by simp[Value.oneCell']) (by omega) (by unfold maxLen;omega) (by omega) (Nat.zero_le _) (wr.heap.size+1) (by simp) ?_))
      | go_in)
     intro gg cp w2 hown2 hgrow2 hat2 hlt2
     have hba:Below wr.heap.size wr (wr.alloc (.cells #[.slice p6 (k+3) cap6,.int .i64 (m:Int)] 71)):=(Below.refl _ wr).alloc nlr _
     have ha:=h1.below hba
     have hne0:some W≠vT'.ownBlock:=fun e=>by obtain⟨x,hx,_⟩:=own_blk h1.rT e.symm;exact blk_ne hx h1.blk (by decide) rfl
     have hWl:=blk_lt h1.blk
     have hq0:w2.cell? ⟨W,6,none⟩=some vT':=(hgrow2.cell_far ⟨W,6,none⟩ (by simp;omega) hne0).trans ha.cell.2.2.2.2.2.2.1
     have hq1:w2.frozen? ⟨W,6,none⟩=false:=(hgrow2.frozen_far ⟨W,6,none⟩ (by simp;omega) hne0).trans (ha.fz 6)
     have hva2:=obl hv2 hba
     have hmrk:Mrk (wr.alloc (.cells #[.slice p6 (k+3) cap6,.int .i64 (m:Int)] 71)) 9 (.string (mt m)) (.slice p6 (k+3) cap6):=⟨k+3,by omega,hva2⟩
     have h3:=ha.app hown2 hgrow2 hmrk hm9 (by omega)
     have hk2:Kept wr (w2.setCell ⟨W,6,none⟩ (.slice (some ⟨gg,0,none⟩) (Lx.length+1) cp)) (fun j=>j≠W∧vT'.ownBlock≠some j):=((Kept.below hba _).trans (Kept.grown hgrow2 (fun j hj=>hj.2))).setCell (fun hk=>hk.1 rfl) _
     have hstr:∀ j x fr,wr.heap[j]? = some (.cells x 9 fr)→(j≠W∧vT'.ownBlock≠some j):=fun j x fr hj=>⟨fun e=>(h1.notS hj).1 e.symm,(h1.notS hj).2.1⟩
     have hv3:=own_kept hv2 hk2 (fun j hj=>by obtain⟨x,hx,_⟩:=own_blk hv2 hj;exact hstr j x _ hx)
     have hk3:=kept_then hk1 hk2 (fun j hj0 hj=>⟨hj.1,fun e=>by rcases hnT j e with q | q;exact hj.2.1 q;omega⟩)
     have hnT3:Nw w vT (.slice (some ⟨gg,0,none⟩) (Lx.length+1) cp):=fun j hj=>by
      have e:gg=j:=by simpa [Value.ownBlock] using hj
      subst e
      rcases hat2 with q | q
      ·exact hnT gg q
      ·right;have:=hk1.size;omega
     have hls3:Ls (w2.setCell ⟨W,6,none⟩ (.slice (some ⟨gg,0,none⟩) (Lx.length+1) cp)) (.slice p6 (k+3) cap6) (k+3) (Lx++[(.slice p6 (k+3) cap6,(m:Int))]):=fun q hq=>by
      rcases List.mem_append.1 hq with e | e
      ·exact(hls.kept hk2 hstr) q e
      ·rw[List.mem_singleton.1 e]
       exact⟨k+3,by omega,by show World.ownsRow _ 0 _ 1 (.slice p6 (k+3) cap6) _ _;rw[Int.toNat_natCast];exact hv3,fun _=>Or.inr nlr⟩
     have hnew3:∀ q ∈ new++[((.slice p6 (k+3) cap6:Value),(m:Int))],Nw w (.slice p k cap) q.1:=fun q hq=>by
      rcases List.mem_append.1 hq with e | e
      ·exact hnew q e
      ·rw[List.mem_singleton.1 e];exact hnG
     have eL:Lx++[((.slice p6 (k+3) cap6:Value),(m:Int))]=ht++(new++[((.slice p6 (k+3) cap6:Value),(m:Int))]):=by rw[← uh HLX,List.append_assoc]
     rw[eL] at h3 hls3
     clear eL
     have H3:=hde (And.intro h3 (And.intro hk3 (And.intro hnT3 hnew3)))
     clear hown2 hgrow2 hat2 hlt2 hba ha hne0 hva2 hmrk h3 hk2 hstr hv3 hk3 hnT3 hls3 hnew3 h1 hv2 hls hk1 hnT hnG hnew c6 f6
     go_wp2
     exact bodyPost_end (results_none rfl _ _ _) rfl ⟨rfl,_,_,(uh H3).1,by rw[List.length_append,uh HLN];rfl,(uh H3).2.1,(uh H3).2.2.1,(uh H3).2.2.2⟩
end Go.Proofs.YteflnddphpjahaaGreatDoor.Dl
