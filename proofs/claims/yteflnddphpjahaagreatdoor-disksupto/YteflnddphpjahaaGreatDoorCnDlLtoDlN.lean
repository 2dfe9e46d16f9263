import Derived.Test.YteflnddphpjahaaGreatDoorCnDlJtoDlK
import Derived.Test.YteflnddphpjahaaGreatDoorCnPlAtoCom
import Derived.Deep.RegionLaw
import Derived.Deep.AppendLies
set_option linter.unusedVariables false
set_option linter.unusedSimpArgs false
set_option maxRecDepth 100000
set_option maxHeartbeats 16000000
namespace Go.Proofs.YteflnddphpjahaaGreatDoor.Dl
open Go.RowKit
open Rd (strs drN Rk RAt rOwn)
open Dk (Kept own_kept)
open Pk (Pair Half Sm DAt dOwn blk_lt blk_ne own_blk own_lt own_sl)
structure Inv2 (w0 w:World) (W:Nat) (Ps:List Pr) (Dl El:List Value) (vd vr:Value) (N:Nat) (vT vI:Value) (ht hi:List (Value × Int)) (n b:Nat):Prop where
 wat:WAt w W vd vr N vT vI ht hi
 rd:w.ownsRow 0 192 1 vd Dl.length Dl
 rr:w.ownsRow 0 136 1 vr El.length El
 pr:∀ p ∈ Ps,Pair w p.D p.E p.R p.O∧Sm p.R n b
 ap:∀ i j (hi:i < Ps.length) (hj:j < Ps.length),i≠j→∀ k,(Ps[i]).O k→¬ (Ps[j]).O k
 base:Below w0.heap.size w0 w
 frm:From w0.heap.size W Ps vd vr vT vI ht hi
theorem dPs_len (Ps:List Pr):(dPs Ps).length=Ps.length:=List.length_map ..
theorem rPs_len (Ps:List Pr):(rPs Ps).length=Ps.length:=List.length_map ..
theorem Inv.two {w0 w:World} {W:Nat} {Ps:List Pr} {vd vr:Value} {N:Nat} {vT vI:Value} {ht hi:List (Value × Int)} {n b:Nat} (h:Inv w0 w W Ps vd vr N vT vI ht hi n b):Inv2 w0 w W Ps (dPs Ps) (rPs Ps) vd vr N vT vI ht hi n b :=
 ⟨h.wat,by rw[dPs_len];exact h.rd,by rw[rPs_len];exact h.rr,h.pr,h.ap,h.base,h.frm⟩
theorem Inv2.one {w0 w:World} {W:Nat} {Ps:List Pr} {vd vr:Value} {N:Nat} {vT vI:Value} {ht hi:List (Value × Int)} {n b:Nat} (h:Inv2 w0 w W Ps (dPs Ps) (rPs Ps) vd vr N vT vI ht hi n b):Inv w0 w W Ps vd vr N vT vI ht hi n b :=
 ⟨h.wat,by have:=h.rd;rw[dPs_len] at this;exact this,by have:=h.rr;rw[rPs_len] at this;exact this,h.pr,h.ap,h.base,h.frm⟩
theorem Inv2.below {w0 w w':World} {W:Nat} {Ps:List Pr} {Dl El:List Value} {vd vr:Value} {N:Nat} {vT vI:Value} {ht hi:List (Value × Int)} {n b:Nat} (h:Inv2 w0 w W Ps Dl El vd vr N vT vI ht hi n b) (hb:Below w.heap.size w w'):Inv2 w0 w' W Ps Dl El vd vr N vT vI ht hi n b :=
 ⟨h.wat.below hb,obl h.rd hb,obl h.rr hb,fun p hp=>⟨(h.pr p hp).1.kept (Kept.below hb (fun _=>True)) (fun _ _=>trivial),(h.pr p hp).2⟩,h.ap,h.base.trans (hb.mono h.base.size),h.frm⟩
theorem Inv2.push0 {w0 w w1:World} {W:Nat} {Ps:List Pr} {Dl El:List Value} {vd vr vd':Value} {N:Nat} {vT vI:Value} {ht hi:List (Value × Int)} {n b:Nat} {x:Value} (h:Inv2 w0 w W Ps Dl El vd vr N vT vI ht hi n b) (ho:w1.ownsRow 0 192 1 vd' (Dl.length+1) (Dl++[x])) (hg:w.grownBy w1 vd.ownBlock) (hat:∀ g,vd'.ownBlock=some g→vd.ownBlock=some g∨w.heap.size≤g) :
  Inv2 w0 (w1.setCell ⟨W,0,none⟩ vd') W Ps (Dl++[x]) El vd' vr N vT vI ht hi n b:=by
 have hne:some W≠vd.ownBlock:=fun e=>by
  obtain⟨x,hx,_⟩:=own_blk h.rd e.symm;exact blk_ne hx h.wat.blk (by decide) rfl
 have hb:w1.heap[W]? = some (.cells (wCells vd vr N vT vI) 98 (0,0)):=(hg.block W (blk_lt h.wat.blk) hne).trans h.wat.blk
 have hk:Kept w (w1.setCell ⟨W,0,none⟩ vd') (fun k=>k≠W∧vd.ownBlock≠some k):=(Kept.grown hg (fun k h=>h.2)).setCell (fun hk=>hk.1 rfl) _
 have hty:∀ k c t fr,w.heap[k]? = some (.cells c t fr)→t≠192→t≠98→(k≠W∧vd.ownBlock≠some k):=fun k c t fr hc h1 h2=>⟨fun e=>blk_ne hc h.wat.blk h2 e,fun e=>by obtain⟨x,hx,_⟩:=own_blk h.rd e;exact blk_ne hc hx h1 rfl⟩
 have row:∀ {e s n:Nat} {v:Value} {xs:List Value},w.ownsRow 0 e s v n xs→e≠192→e≠98→(w1.setCell ⟨W,0,none⟩ vd').ownsRow 0 e s v n xs:=fun ho h1 h2=>own_kept ho hk (fun g hg=>by obtain⟨c,hc,_⟩:=own_blk ho hg;exact hty g c _ _ hc h1 h2)
 have hbase:=h.base.size
 have hw:=h.wat
 have hfW:=h.frm.W
 refine⟨⟨by rw[heap_setCell_same w1 W 0 _ _ _ hb];rfl,row hw.rT (by decide) (by decide),row hw.rI (by decide) (by decide),fun p hp=>⟨(hw.mT p hp).1,(hw.mT p hp).2.1,by obtain⟨n,hn,ho⟩:=(hw.mT p hp).2.2;exact⟨n,hn,row ho (by decide) (by decide)⟩⟩,fun p hp=>by obtain⟨n,hn,ho⟩:=hw.mI p hp;exact⟨n,hn,row ho (by decide) (by decide)⟩,hw.small⟩,?_,row h.rr (by decide) (by decide),fun p hp=>⟨(h.pr p hp).1.kept hk (fun k hkO=>?_),(h.pr p hp).2⟩,h.ap,?_,⟨h.frm.W,fun g hg2=>?_,h.frm.vr,h.frm.vT,h.frm.vI,h.frm.ps,h.frm.ht,h.frm.hi⟩⟩
 ·rw[List.length_append]
  refine ownsRow_setCell_other ho (fun e2=>?_) _
  obtain⟨x,hx,_⟩:=own_blk ho e2
  exact blk_ne hx hb (by decide) rfl
 ·obtain⟨c,t,fr,hc,ht⟩:=pair_ty (h.pr p hp).1 hkO
  have h1:t≠192:=fun e=>absurd (e ▸ ht) (by decide)
  have h2:t≠98:=fun e=>absurd (e ▸ ht) (by decide)
  exact hty k c t fr hc h1 h2
 ·refine⟨hk.os.trans h.base.os,hk.tape.trans h.base.tape,hk.output.trans h.base.output,Nat.le_trans hbase hk.size,fun k hk1=>?_⟩
  rw[hk.block k (by omega) ⟨by omega,fun e=>by have:=h.frm.vd k e;omega⟩,h.base.block k hk1]
 ·rcases hat g hg2 with q | q
  ·exact h.frm.vd g q
  ·omega
theorem Inv2.push1 {w0 w w1:World} {W:Nat} {Ps:List Pr} {Dl El:List Value} {vd vr vr':Value} {N:Nat} {vT vI:Value} {ht hi:List (Value × Int)} {n b:Nat} {x:Value} (h:Inv2 w0 w W Ps Dl El vd vr N vT vI ht hi n b) (ho:w1.ownsRow 0 136 1 vr' (El.length+1) (El++[x])) (hg:w.grownBy w1 vr.ownBlock) (hat:∀ g,vr'.ownBlock=some g→vr.ownBlock=some g∨w.heap.size≤g) :
  Inv2 w0 (w1.setCell ⟨W,1,none⟩ vr') W Ps Dl (El++[x]) vd vr' N vT vI ht hi n b:=by
 have hne:some W≠vr.ownBlock:=fun e=>by
  obtain⟨x,hx,_⟩:=own_blk h.rr e.symm;exact blk_ne hx h.wat.blk (by decide) rfl
 have hb:w1.heap[W]? = some (.cells (wCells vd vr N vT vI) 98 (0,0)):=(hg.block W (blk_lt h.wat.blk) hne).trans h.wat.blk
 have hk:Kept w (w1.setCell ⟨W,1,none⟩ vr') (fun k=>k≠W∧vr.ownBlock≠some k):=(Kept.grown hg (fun k h=>h.2)).setCell (fun hk=>hk.1 rfl) _
 have hty:∀ k c t fr,w.heap[k]? = some (.cells c t fr)→t≠136→t≠98→(k≠W∧vr.ownBlock≠some k):=fun k c t fr hc h1 h2=>⟨fun e=>blk_ne hc h.wat.blk h2 e,fun e=>by obtain⟨x,hx,_⟩:=own_blk h.rr e;exact blk_ne hc hx h1 rfl⟩
 have row:∀ {e s n:Nat} {v:Value} {xs:List Value},w.ownsRow 0 e s v n xs→e≠136→e≠98→(w1.setCell ⟨W,1,none⟩ vr').ownsRow 0 e s v n xs:=fun ho h1 h2=>own_kept ho hk (fun g hg=>by obtain⟨c,hc,_⟩:=own_blk ho hg;exact hty g c _ _ hc h1 h2)
 have hbase:=h.base.size
 have hw:=h.wat
 have hfW:=h.frm.W
 refine⟨⟨by rw[heap_setCell_same w1 W 1 _ _ _ hb];rfl,row hw.rT (by decide) (by decide),row hw.rI (by decide) (by decide),fun p hp=>⟨(hw.mT p hp).1,(hw.mT p hp).2.1,by obtain⟨n,hn,ho⟩:=(hw.mT p hp).2.2;exact⟨n,hn,row ho (by decide) (by decide)⟩⟩,fun p hp=>by obtain⟨n,hn,ho⟩:=hw.mI p hp;exact⟨n,hn,row ho (by decide) (by decide)⟩,hw.small⟩,row h.rd (by decide) (by decide),?_,fun p hp=>⟨(h.pr p hp).1.kept hk (fun k hkO=>?_),(h.pr p hp).2⟩,h.ap,?_,⟨h.frm.W,h.frm.vd,fun g hg2=>?_,h.frm.vT,h.frm.vI,h.frm.ps,h.frm.ht,h.frm.hi⟩⟩
 ·rw[List.length_append]
  refine ownsRow_setCell_other ho (fun e2=>?_) _
  obtain⟨x,hx,_⟩:=own_blk ho e2
  exact blk_ne hx hb (by decide) rfl
 ·obtain⟨c,t,fr,hc,ht⟩:=pair_ty (h.pr p hp).1 hkO
  have h1:t≠136:=fun e=>absurd (e ▸ ht) (by decide)
  have h2:t≠98:=fun e=>absurd (e ▸ ht) (by decide)
  exact hty k c t fr hc h1 h2
 ·refine⟨hk.os.trans h.base.os,hk.tape.trans h.base.tape,hk.output.trans h.base.output,Nat.le_trans hbase hk.size,fun k hk1=>?_⟩
  rw[hk.block k (by omega) ⟨by omega,fun e=>by have:=h.frm.vr k e;omega⟩,h.base.block k hk1]
 ·rcases hat g hg2 with q | q
  ·exact h.frm.vr g q
  ·omega
theorem Inv2.pair {w0 w:World} {W B:Nat} {Ps:List Pr} {Dl El:List Value} {vd vr:Value} {N:Nat} {vT vI:Value} {ht hi:List (Value × Int)} {n b:Nat} (h:Inv2 w0 w W Ps Dl El vd vr N vT vI ht hi n b) (p:Pr) (hp:Pair w p.D p.E p.R p.O) (hs:Sm p.R n b) (hn:∀ k,p.O k→B≤k) (hB:w0.heap.size≤B) (hold:∀ q ∈ Ps,∀ k,q.O k→k < B) :
  Inv2 w0 w W (Ps++[p]) Dl El vd vr N vT vI ht hi n b:=by
 refine⟨h.wat,h.rd,h.rr,fun q hq=>?_,fun i j hi hj hij k hki hkj=>?_,h.base,⟨h.frm.W,h.frm.vd,h.frm.vr,h.frm.vT,h.frm.vI,fun q hq k hk=>?_,h.frm.ht,h.frm.hi⟩⟩
 ·rcases List.mem_append.1 hq with e | e
  ·exact h.pr q e
  ·rw[List.mem_singleton.1 e];exact⟨hp,hs⟩
 ·simp only[List.length_append,List.length_singleton] at hi hj
  by_cases e1:i < Ps.length
  ·rw[List.getElem_append_left e1] at hki
   by_cases e2:j < Ps.length
   ·rw[List.getElem_append_left e2] at hkj
    exact h.ap i j e1 e2 hij k hki hkj
   ·obtain rfl:j=Ps.length:=by omega
    simp only[List.getElem_concat_length] at hkj
    have:=hn k hkj
    have:=hold _ (List.getElem_mem e1) k hki
    omega
  ·obtain rfl:i=Ps.length:=by omega
   simp only[List.getElem_concat_length] at hki
   rw[List.getElem_append_left (by omega)] at hkj
   have:=hn k hki
   have:=hold _ (List.getElem_mem _) k hkj
   omega
 ·rcases List.mem_append.1 hq with e | e
  ·exact h.frm.ps q e k hk
  ·rw[List.mem_singleton.1 e] at hk
   have:=hn k hk
   omega
end Go.Proofs.YteflnddphpjahaaGreatDoor.Dl
namespace Go.Proofs.YteflnddphpjahaaGreatDoor
open Go.RowKit
theorem step_call {P:Program} {ops:Array Oper} {o:Oper} {a:Act} {w:World} {K:Act→World→Prop} {Q:Exit→Act→World→Prop} {E:Prop}
  (hg:o.guard=none) (c:Operand) (xs:Array Operand) (ts:Array TypeId) (hop:o.op=Op.call { callee := .value c,args:=xs,argTypes:=ts }) (F:Nat) (hc:a.eval c = .func (.func F) #[] #[])
  (args:Array Value) (hargs0:xs.toList.map a.eval=args.toList) (hen:∀ (args:Array Value) (w:World),(callFunc F args).run P w = .ok (.enter F args) w) {R:Ending→World→Prop} (hcalls:Calls P F args w R)
  (h:∀ e w',R e w'→match e with
    | .returned v=>K (a.put o.dst v) w'
    | .panicked chain=>Q (.panic chain) a w'
    | .outgrown=>LetsOut Q):if Region.wanted o (yielded ops a.tmps)=true then Oper.wp P o a w K Q else E:=by
 have hw:Region.wanted o (yielded ops a.tmps)=true:=by simp[Region.wanted,hg]
 have hargs:xs.map a.eval=args:=by apply Array.ext';simpa using hargs0
 rw[if_pos hw]
 unfold Oper.wp
 have hrun:(execOp a.eval o).run P w = .ok (.enter F args) w:=by
  have h1:=hen args w
  simp[execOp,hop,resolve,invoke,Deferred.ofValue,hc,hargs,h1,Result.andThen]
 rw[hrun,Oper.upon_enter]
 refine hcalls.mono ?_
 intro e w' hR
 have:=h e w' hR
 cases e <;> exact this
end Go.Proofs.YteflnddphpjahaaGreatDoor
namespace Go.Proofs.YteflnddphpjahaaGreatDoor.Dl
open Go.RowKit
open Rd (strs drN Rk RAt rOwn)
open Dk (Kept own_kept)
open Pk (Pair Half Sm DAt dOwn blk_lt blk_ne own_blk own_lt own_sl d0)
theorem Tryz.info_pdk:(Tryz.prog.info? 192).map (fun i=>(i.zero,i.size,i.bytes))=some (some (.pointer none),1,8):=by kernel_rfl
theorem Tryz.info_prk:(Tryz.prog.info? 136).map (fun i=>(i.zero,i.size,i.bytes))=some (some (.pointer none),1,8):=by kernel_rfl
theorem enter_any {P : Program} {f : FuncId} {fn : Func} (hf : P.funcs[f]? = some fn) (hn : (fn.name == "runtime.NumGoroutine") = false) (hb : fn.body.isNone = false) (args : Array Value) (w : World) : (callFunc f args).run P w = .ok (.enter f args) w := by
 unfold callFunc
 have hn' : ¬ fn.name = "runtime.NumGoroutine" := by simpa using hn
 have hb':¬ fn.body=none:=by intro e;rw[e] at hb;cases hb
 simp[go_sem,hf,hn',hb',hb]
theorem d0_own {D:Nat} {q:Int} {k:Nat} (h:dOwn D (d0 q) k):k=D:=by
 rcases h with e | e | e | e | ⟨f,hf,_⟩
 ·exact e
 ·simp[d0,Value.ownBlock] at e
 ·simp[d0,Value.ownBlock] at e
 ·simp[d0,Value.ownBlock] at e
 ·cases hf
theorem pair_new {w:World} {D E B:Nat} {q:Int} (hd:DAt w D (d0 q)) (hr:RAt w E ⟨[],[],[],q,-1,false⟩ (.slice none 0 0) (.slice none 0 0) (.slice none 0 0)) (hDE:D≠E) (hD:B≤D) (hE:B≤E):∃ O,Pair w D E ⟨[],[],[],q,-1,false⟩ O∧∀ k,O k→B≤k:=by
 have hro:∀ k,rOwn E (.slice none 0 0) (.slice none 0 0) (.slice none 0 0) k→k=E:=fun k hk=>by
  rcases hk with e | e | e | e
  ·exact e
  ·simp[Value.ownBlock] at e
  ·simp[Value.ownBlock] at e
  ·simp[Value.ownBlock] at e
 refine⟨fun k=>dOwn D (d0 q) k∨rOwn E (.slice none 0 0) (.slice none 0 0) (.slice none 0 0) k,⟨d0 q,fun i=>i,_,_,_,hd,Pk.Is.new q,hr,fun k hk hr=>?_,fun k=>Iff.rfl⟩,fun k hk=>?_⟩
 ·have:=d0_own hk;have:=hro k hr;omega
 ·rcases hk with hk | hk
  ·have:=d0_own hk;omega
  ·have:=hro k hk;omega
theorem news_any (w0 w:World) (W:Nat) (Ps:List Pr) (vd vr:Value) (N:Nat) (vT vI:Value) (ht hi:List (Value × Int)) (n b:Nat) (q:Int) (h:Inv w0 w W Ps vd vr N vT vI ht hi n b) (hm:Ps.length≤1000000) :
  Calls Tryz.prog 42 #[.pointer (some ⟨W,0,none⟩),.int .i64 q] w (StPost w0 W (Ps.length+1) n b N ht.length hi.length):=by
 obtain⟨t1,ht1,hua,hub,huc⟩:=info_parts Tryz.info_pdk
 obtain⟨t2,ht2,hva,hvb,hvc⟩:=info_parts Tryz.info_prk
 have hC:=Pk.newDisk_any q w
 have hdl:(dPs Ps).length≤1000000:=by rw[dPs_len];exact hm
 have hrl:(rPs Ps).length≤1000000:=by rw[rPs_len];exact hm
 have H:=hde h
 have hWl:=blk_lt h.wat.blk
 clear h
 go_enter Tryz.func42,Tryz.ntmps42
 go_wp2_with fail
 refine hC.mono ?_
 rintro e w1 ⟨rfl,hb1,hd1⟩
 have h1:=(uh H).two.below hb1
 have c0:=h1.wat.cell.1
 have f0:=h1.wat.fz 0
 have hz1:=blk_lt hd1.blk
 clear hC
 go_wp2_with (first
  | (at_builtin;go_must (refine wpList_append_lies _ rfl (.tmp 14) (.tmp 16) 95 rfl 0 192 t1 _ 1 8 Tryz.underlying95 ht1 hua hub huc rfl (by omega) vd _ _ rfl (h1.rd.alloc _) ⟨w1.heap.size,0,none⟩ 1 1 [.pointer (some ⟨w.heap.size+1,0,none⟩)] rfl rfl (World.news_of_block (cs := #[.pointer (some ⟨w.heap.size+1,0,none⟩)]) (t:=192) (fr:=(0,0)) (heap_alloc_new w1 _)) (by simp[Value.oneCell']) (by omega) (by unfold maxLen;omega) (by omega) (Nat.zero_le _) (w1.heap.size+1) (by simp) ?_))
  | go_in)
 intro gg cp w2 hown2 hgrow2 hat2 hlt2
 have hba:Below w1.heap.size w1 (w1.alloc (.cells #[.pointer (some ⟨w.heap.size+1,0,none⟩)] 192)):=(Below.refl _ w1).alloc nlr _
 have ha:=h1.below hba
 have hne0:some W≠vd.ownBlock:=fun e=>by obtain⟨x,hx,_⟩:=own_blk h1.rd e.symm;exact blk_ne hx h1.wat.blk (by decide) rfl
 have hq0:w2.cell? ⟨W,0,none⟩=some vd:=(hgrow2.cell_far ⟨W,0,none⟩ (by simp;omega) hne0).trans ha.wat.cell.1
 have hq1:w2.frozen? ⟨W,0,none⟩=false:=(hgrow2.frozen_far ⟨W,0,none⟩ (by simp;omega) hne0).trans (ha.wat.fz 0)
 have h3:=ha.push0 hown2 hgrow2 (fun j hj=>by
  have e:gg=j:=by simpa [Value.ownBlock] using hj
  subst e
  rcases hat2 with q | q
  ·exact Or.inl q
  ·right;simp;omega)
 have hk3:Kept w1 (w2.setCell ⟨W,0,none⟩ (.slice (some ⟨gg,0,none⟩) ((dPs Ps).length+1) cp)) (fun j=>j≠W∧vd.ownBlock≠some j):=((Kept.below hba _).trans (Kept.grown hgrow2 (fun j hj=>hj.2))).setCell (fun hk=>hk.1 rfl) _
 have hd3:=hd1.kept hk3 (fun k hk=>by
  have e:=d0_own hk
  refine⟨by omega,fun e2=>?_⟩
  have:=own_lt (uh H).rd e2
  omega)
 have hz3:=hk3.size
 have H3:=hde (And.intro h3 hd3)
 have HZ:=hde (Nat.lt_of_lt_of_le hz1 hz3)
 clear hown2 hgrow2 hat2 hlt2 hba ha hne0 h3 hk3 hd3 h1 c0 f0 hb1 hd1 hz1 hz3
 go_upto_region 5 with (fail)
 clear hq0 hq1
 generalize (w2.setCell ⟨W,0,none⟩ (.slice (some ⟨gg,0,none⟩) ((dPs Ps).length+1) cp))=V at H3 HZ ⊢
 have x1:=(uh H3).1.wat.cell.2.1
 have f1:=(uh H3).1.wat.fz 1
 have HEN:Hid (∀ (args:Array Value) (w:World),(callFunc 77 args).run Tryz.prog w = .ok (.enter 77 args) w):=enter_any Tryz.func77 (by kernel_rfl) (by kernel_rfl)
 have HRN:=hde (fun X=>Rd.rnew_any q X)
 have hWV:=blk_lt (uh H3).1.wat.blk
 have hne1:some W≠vr.ownBlock:=fun e=>by obtain⟨x,hx,_⟩:=own_blk (uh H3).1.rr e.symm;exact blk_ne hx (uh H3).1.wat.blk (by decide) rfl
 have HX:Hid (Inv2 w0 V.drew W Ps (dPs Ps++[.pointer (some ⟨w.heap.size+1,0,none⟩)]) (rPs Ps) (.slice (some ⟨gg,0,none⟩) ((dPs Ps).length+1) cp) vr N vT vI ht hi n b):=hde ((uh H3).1.below (Below.refl _ V).drew)
 go_region_law (first
  | (refine step_call (by rfl) _ _ _ (by rfl) 77 (by rfl) _ (by rfl) (uh HEN) (uh HRN _) ?_;rintro e wq ⟨rfl,hr,hbq⟩;dsimp only;have H5:=hde ((uh HX).below hbq);have xq:=(uh H5).wat.cell.2.1;have hWq:=blk_lt (uh H5).wat.blk;have HRD:=hde hr;have HBQ:=hde hbq;clear hr hbq)
  | (refine step_append_lies _ (by rfl) _ _ _ (by rfl) 0 136 t2 _ 1 8 Tryz.underlying96 ht2 hva hvb hvc rfl (by omega) vr _ _ (by rfl) ((uh H5).rr.alloc _) ⟨wq.heap.size,0,none⟩ 1 1 [.pointer (some ⟨V.heap.size,0,none⟩)] (by rfl) (by rfl) (World.news_of_block (cs := #[.pointer (some ⟨V.heap.size,0,none⟩)]) (t:=136) (fr:=(0,0)) (heap_alloc_new wq _)) (by simp[Value.oneCell']) (by omega) (by unfold maxLen;omega) (by omega) (Nat.zero_le _) (wq.heap.size+1) (by simp) ?_;intro g2 cp2 w4 hown4 hgrow4 hat4 hlt4;have hq0:w4.cell? ⟨W,1,none⟩=some vr:=(hgrow4.cell_far ⟨W,1,none⟩ (by have:=blk_lt (uh H5).wat.blk;simp;omega) hne1).trans ((uh H5).below ((Below.refl _ wq).alloc nlr _)).wat.cell.2.1;have hq1:w4.frozen? ⟨W,1,none⟩=false:=(hgrow4.frozen_far ⟨W,1,none⟩ (by have:=blk_lt (uh H5).wat.blk;simp;omega) hne1).trans (((uh H5).below ((Below.refl _ wq).alloc nlr _)).wat.fz 1)))
 all_goals
  have HR:Hid (StPost w0 W (Ps.length+1) n b N ht.length hi.length (.returned (.bool true)) (w4.setCell ⟨W,1,none⟩ (.slice (some ⟨g2,0,none⟩) ((rPs Ps).length+1) cp2))):=by
   have hba:Below wq.heap.size wq (wq.alloc (.cells #[.pointer (some ⟨V.heap.size,0,none⟩)] 136)):=(Below.refl _ wq).alloc nlr _
   have ha:=(uh H5).below hba
   have h6:=ha.push1 hown4 hgrow4 (fun j hj=>by
    have e:g2=j:=by simpa [Value.ownBlock] using hj
    subst e
    rcases hat4 with q | q
    ·exact Or.inl q
    ·right;simp;omega)
   have hk6:Kept wq (w4.setCell ⟨W,1,none⟩ (.slice (some ⟨g2,0,none⟩) ((rPs Ps).length+1) cp2)) (fun j=>j≠W∧vr.ownBlock≠some j):=((Kept.below hba _).trans (Kept.grown hgrow4 (fun j hj=>hj.2))).setCell (fun hk=>hk.1 rfl) _
   have hbV:Below V.heap.size V wq:=(Below.refl _ V).drew.trans (uh HBQ)
   have hzV:=uh HZ
   have hr6:=Pk.RAt.kept (uh HRD) hk6 (fun k hk=>by
    rcases hk with e | e | e | e
    ·refine⟨by simp at e;omega,fun e2=>?_⟩
     have:=own_lt (uh H3).1.rr e2
     simp at e;omega
    ·simp[Value.ownBlock] at e
    ·simp[Value.ownBlock] at e
    ·simp[Value.ownBlock] at e)
   have hd6:=((uh H3).2.kept (Kept.below hbV (fun _=>True)) (fun _ _=>trivial)).kept hk6 (fun k hk=>by
    have e:=d0_own hk
    refine⟨by omega,fun e2=>?_⟩
    have:=own_lt (uh H).rr e2
    omega)
   obtain⟨O,hP,hO⟩:=pair_new (B:=w.heap.size) hd6 hr6 (by simp;omega) (by omega) (by simp;omega)
   have h7:=h6.pair ⟨_,_,_,O⟩ hP (Pk.Sm.mono (Pk.Sm.new q) (Nat.zero_le _) (Nat.zero_le _)) hO (uh H).base.size (fun p hp k hk=>((uh H).pr p hp).1.lt hk)
   have e1:dPs Ps++[.pointer (some ⟨w.heap.size+1,0,none⟩)]=dPs (Ps++[⟨w.heap.size+1,V.heap.size,⟨[],[],[],q,-1,false⟩,O⟩]):=by unfold dPs;rw[List.map_append];rfl
   have e2:rPs Ps++[.pointer (some ⟨V.heap.size,0,none⟩)]=rPs (Ps++[⟨w.heap.size+1,V.heap.size,⟨[],[],[],q,-1,false⟩,O⟩]):=by unfold rPs;rw[List.map_append];rfl
   rw[e1,e2] at h7
   exact hde ⟨rfl,_,_,_,_,_,_,_,_,h7.one,by simp,by omega,by omega,by omega⟩
  clear hown4 hgrow4 hat4 hlt4 hq0 hq1
  go_wp2
  go_ret
  exact uh HR
open Pk (Pair Half Sm DAt dOwn blk_lt blk_ne own_blk own_lt own_sl)
def EnPost (w0 w:World) (W:Nat) (Ps:List Pr) (vd vr:Value) (N:Nat) (vT vI:Value) (ht hi:List (Value × Int)) (n b:Nat) (e:Ending) (w':World):Prop :=
 e = .returned (.bool true)∧∃ vT' ht',Inv w0 w' W Ps vd vr (N+1) vT' vI ht' hi n b∧ht'.length=ht.length+4
theorem ends_any (w0 w:World) (W:Nat) (Ps:List Pr) (vd vr:Value) (N:Nat) (vT vI:Value) (ht hi:List (Value × Int)) (n b i:Nat) (h:Inv w0 w W Ps vd vr N vT vI ht hi n b) (hil:i < Ps.length) (hn:n≤100000) (hb:b≤1048576) (hN:N+1≤10000000) (hht:ht.length+4≤10000000) :
  Calls Tryz.prog 28 #[.pointer (some ⟨W,0,none⟩),.int .i64 (i:Int)] w (EnPost w0 w W Ps vd vr N vT vI ht hi n b):=by
 obtain⟨g,cap,g',cap',e1,e2,q1,q2⟩:=h.ptr i hil
 obtain⟨hpr,hsm⟩:=h.pr Ps[i] (List.getElem_mem _)
 have hfit:=hsm.fit hn hb hpr.ok.2
 have hll:=Sm.lst hsm hpr.ok.1
 have x1:=h.wat.cell.2.1
 rw[e2] at x1
 have hiz:(i:Int) < (Ps.length:Int):=by omega
 have hi0:¬ (i:Int) < 0:=by omega
 have rC:=Pk.r_list hpr hfit
 obtain⟨L,hL⟩:∃ L,(Ps[i]).R.lst=L:=⟨_,rfl⟩
 have hE:(Ps[i]).R.lstE=0∨((Ps[i]).R.lstE=9∧L=[]):=by
  rw[← hL]
  unfold Rk.lstE Rk.lst
  cases hd:(Ps[i]).R.down
  ·left;rfl
  ·right;exact⟨rfl,rfl⟩
 rw[hL] at rC hll
 obtain⟨r,hr⟩:∃ r,(Ps[i]).R.lstE=r:=⟨_,rfl⟩
 rw[hr] at rC hE
 have H:=hde h
 clear h hpr hsm hfit e1 e2 q1 hL hr
 go_enter Tryz.func28,Tryz.ntmps28
 go_wp2_with fail
 refine rC.mono ?_
 rintro e w1 ⟨v,rfl,ho1,hb1⟩
 obtain⟨p,c,rfl⟩:=own_sl ho1
 have h1:=(uh H).below hb1
 have hC:=lists_any w0 w1 W Ps vd vr N vT vI ht hi n b i h1 hil hn hb hN hht
 have H1:=hde (And.intro h1 ho1)
 clear h1 ho1 hb1 rC x1 q2
 go_wp2_with fail
 refine hC.mono ?_
 rintro e w2 ⟨rfl,vT',new,hI,hlen,hk⟩
 have hv2:w2.ownsRow w.heap.size 9 1 (.slice p L.length c) L.length (strs L):=own_kept (uh H1).2 hk (fun j hj=>by
  obtain⟨x,hx,_⟩:=own_blk (uh H1).2 hj
  refine⟨fun e=>(((uh H1).1.wat.notS hx).1 e.symm),((uh H1).1.wat.notS hx).2.1⟩)
 have H2:=hde (And.intro hI (And.intro hv2 hlen))
 clear hI hv2 hlen hk hC
 go_wp2_with fail
 go_loopw [7,8] (fun ok i wr=>∃ k:Nat,k≤L.length∧ok = .bool true∧i = .int .i64 k∧Below w2.heap.size w2 wr) (fun _ i _=>L.length - (intOf i).toNat)
 case atStart=>exact⟨0,Nat.zero_le _,rfl,rfl,Below.refl _ _⟩
 case round =>
  obtain⟨k,hk,rfl,rfl,hbw⟩:=hrel
  have hI:=(uh H2).1.below hbw
  by_cases hlt:k < L.length
  ·obtain rfl:r=0:=by
    rcases hE with e | ⟨_,e⟩
    ·exact e
    ·rw[e] at hlt;simp at hlt
   obtain⟨_,_,e3,q3⟩:=txs_of_own (obl (uh H2).2.1 hbw)
   injection e3 with a1 a2 a3
   subst a1 a3
   obtain⟨g3,hp,hg,c0⟩:=q3 k hlt
   subst hp
   have hkz:(k:Int) < (L.length:Int):=by omega
   have hk0:¬ (k:Int) < 0:=by omega
   obtain⟨x,hx⟩:∃ x,L[k]=x:=⟨_,rfl⟩
   rw[hx] at c0
   have hrd:=reads_any w0 _ W Ps vd vr (N+1) vT' vI (ht++new) hi n b i x hI hil hn hb
   have HB:=hde hbw
   clear q3 hx hI hbw
   go_wp2_with fail
   refine hrd.mono ?_
   rintro e w3 ⟨rfl,hb3⟩
   have HB3:=hde ((uh HB).trans (hb3.mono (uh HB).size))
   clear hrd hb3 c0
   go_wp2
   go_roundw
   case rel=>exact⟨k+1,by omega,rfl,by go_num,uh HB3⟩
   case measure=>simp[intOf];omega
  ·obtain rfl:k=L.length:=by omega
   have hkz:¬ (L.length:Int) < (L.length:Int):=by omega
   have hus:=used_any w0 _ W Ps vd vr (N+1) vT' vI (ht++new) hi n b i hI hil hn hb
   have HI:=hde hI
   have fin:∀ w3,Below wr.heap.size wr w3→EnPost w0 w W Ps vd vr N vT vI ht hi n b (.returned (.bool true)) w3:=fun w3 hb3=>⟨rfl,vT',ht++new,(uh HI).below hb3,by rw[List.length_append,(uh H2).2.2]⟩
   have HFN:=hde fin
   clear hI hbw fin
   have hE2:(r == 0)=true∨(r == 0)=false:=by cases (r == 0) <;> simp
   rcases hE2 with hr0 | hr0
   all_goals
    go_wp2_with fail
    refine hus.mono ?_
    rintro e w3 ⟨rfl,hb3⟩
    have HB3:=hde hb3
    clear hb3
    go_wp2
    go_ret
    exact(uh HFN) _ (uh HB3)
end Go.Proofs.YteflnddphpjahaaGreatDoor.Dl
