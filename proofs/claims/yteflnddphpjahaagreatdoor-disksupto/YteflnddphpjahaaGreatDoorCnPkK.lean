import Derived.Test.YteflnddphpjahaaGreatDoorCnPkJ
import Derived.Deep.DeepCutAuto
set_option linter.unusedVariables false
set_option linter.unusedSimpArgs false
set_option maxRecDepth 100000
set_option maxHeartbeats 16000000
namespace Go.Proofs.YteflnddphpjahaaGreatDoor.Pk
open Go.RowKit Go.Shelf
open Sd (Tb)
open Dk
attribute [local go_sem] Oper.semAt_some
theorem ch_get (L:List Ch):∀ j (h:j < L.length),(chCells L)[j * 3]? = some (.string (L[j]).gone)∧(chCells L)[j * 3+1]? = some (.string (L[j]).name)∧(chCells L)[j * 3+2]? = some (optPtr (L[j]).file):=by
 induction L with
 | nil=>intro j h;simp at h
 | cons p t ih =>
  intro j h
  have e:chCells (p :: t) = .string p.gone :: .string p.name :: optPtr p.file :: chCells t:=by simp[chCells]
  rw[e]
  cases j with
  | zero=>simp
  | succ j =>
   have:=ih j (by simpa using h)
   rw[show (j+1) * 3=j * 3+1+1+1 by omega]
   simpa using this
def apAll (ap:Sd.Tb→Ch→Sd.Tb) (T:Sd.Tb) (L:List Ch):Sd.Tb:=L.foldl ap T
theorem ap_sorted {T:Tb} (h:Sd.tsorted T):∀ L:List Ch,Sd.tsorted (apAll apG T L):=by
 intro L
 induction L generalizing T with
 | nil=>exact h
 | cons c L ih=>exact ih (apG_sorted h c)
theorem ap_len:∀ (L:List Ch) (T:Tb),(apAll apG T L).length≤T.length+L.length
 | [],T=>Nat.le_refl _
 | c :: L,T=>by
  have h1:=ap_len L (apG T c)
  have h2:=apG_len T c
  simp only[List.length_cons]
  show (apAll apG (apG T c) L).length≤_
  omega
theorem ap_mem:∀ (L:List Ch) (T:Tb) (p:ByteArray × Nat),p ∈ apAll apG T L→p ∈ T∨∃ c,c ∈ L∧c.file=some p.2:=by
 intro L
 induction L with
 | nil=>intro T p h;exact Or.inl h
 | cons c t ih =>
  intro T p h
  rcases ih (apG T c) p h with h1 | ⟨c',hc',e⟩
  ·rcases apG_mem h1 with h2 | h2
   ·exact Or.inl h2
   ·exact Or.inr ⟨c,List.mem_cons_self ..,h2⟩
  ·exact Or.inr ⟨c',List.mem_cons_of_mem _ hc',e⟩
def crStep (K:Nat→Int) (st:Nat × (Nat→Fl)) (x:ByteArray × Nat):Nat × (Nat→Fl):=(st.1+1,upd st.2 x.2 (crashF (st.2 x.2) (K st.1)))
def crAll (K:Nat→Int) (F:Nat→Fl) (L:List (ByteArray × Nat)):Nat × (Nat→Fl):=L.foldl (crStep K) (0,F)
theorem crAll_snoc (K:Nat→Int) (F:Nat→Fl) (L:List (ByteArray × Nat)) (x:ByteArray × Nat):crAll K F (L++[x])=crStep K (crAll K F L) x:=by
 unfold crAll;rw[List.foldl_append];rfl
theorem cr_fst (K:Nat→Int) (L:List (ByteArray × Nat)):∀ st,(L.foldl (crStep K) st).1=st.1+L.length:=by
 induction L with
 | nil=>intro st;rfl
 | cons x t ih=>intro st;rw[List.foldl_cons,ih,List.length_cons];show st.1+1+t.length=_;omega
theorem crAll_fst (K:Nat→Int) (F:Nat→Fl) (L:List (ByteArray × Nat)):(crAll K F L).1=L.length:=by
 unfold crAll;rw[cr_fst];show 0+L.length=_;omega
theorem cr_safe (K:Nat→Int) (L:List (ByteArray × Nat)):∀ st:Nat × (Nat→Fl),(∀ f,(st.2 f).safe≤(st.2 f).bytes.size)→∀ f,((L.foldl (crStep K) st).2 f).safe≤((L.foldl (crStep K) st).2 f).bytes.size:=by
 induction L with
 | nil=>intro st h;exact h
 | cons x t ih =>
  intro st h
  refine ih (crStep K st x) (fun f=>?_)
  show (upd st.2 x.2 (crashF (st.2 x.2) (K st.1)) f).safe≤(upd st.2 x.2 (crashF (st.2 x.2) (K st.1)) f).bytes.size
  by_cases e:f=x.2
  ·rw[e,upd_same];exact crashF_safe (h x.2) _
  ·rw[upd_other _ _ e];exact h f
theorem crAll_safe (K:Nat→Int) (F:Nat→Fl) (L:List (ByteArray × Nat)) (h:∀ f,(F f).safe≤(F f).bytes.size):∀ f,((crAll K F L).2 f).safe≤((crAll K F L).2 f).bytes.size:=cr_safe K L (0,F) h
def inT (T:Tb) (f:Nat):Prop := ∃ a,(a,f) ∈ T
theorem cr_other (K:Nat→Int) (f:Nat) (L:List (ByteArray × Nat)):∀ st:Nat × (Nat→Fl),(∀ p ∈ L,p.2≠f)→(L.foldl (crStep K) st).2 f=st.2 f:=by
 induction L with
 | nil=>intro st _;rfl
 | cons p L ih =>
  intro st h
  rw[List.foldl_cons,ih _ (fun q hq=>h q (List.mem_cons_of_mem _ hq))]
  exact upd_other _ _ (fun e=>h p (List.mem_cons_self ..) e.symm)
theorem crAll_other (K:Nat→Int) (F:Nat→Fl) {T:Tb} {f:Nat} (h:¬ inT T f):(crAll K F T).2 f=F f:=cr_other K f T (0,F) (fun p hp e=>h ⟨p.1,by rw[← e];exact hp⟩)
structure CrFl (W1 W:World) (N:Nat) (T:Tb) (vb:Nat→Value) (n:Nat) (G:Nat→Fl):Prop where
 ibox:W.heap[N]? = some (.cells #[.int .i64 (n:Int)] 3 (0,0))
 files:∀ f,inT T f→∃ v,FAt W f (G f) v∧v.ownBlock=(vb f).ownBlock
 kept:KeptN N (fun k=>∀ f,inT T f→k≠f) W1 W
theorem CrFl.own {W1:World} {N:Nat} {T:Tb} {vb:Nat→Value} {β : Type} {n : β→Nat} {G : β→Nat→Fl} (b:Nat) (hb:N≤b):OwnFrom b (fun (x : β) W=>CrFl W1 W N T vb (n x) (G x)):=fun s W W' row hI hg hr=>by
 refine⟨cells_stay hg hr hI.ibox,fun f hf=>?_,⟨hg.os.trans hI.kept.os,hg.tape.trans hI.kept.tape,hg.output.trans hI.kept.output,Nat.le_trans hI.kept.size hg.size,fun k hk ho=>?_⟩⟩
 ·obtain⟨v,h1,h2⟩:=hI.files f hf
  exact⟨v,⟨cells_stay hg hr h1.blk,own_stay hg hr h1.row⟩,h2⟩
 ·have hkl:k < W.heap.size:=by have:=blk_lt hI.ibox;omega
  rw[hg.block k hkl (fun e=>by have:=(hr k e.symm).1;omega)]
  exact hI.kept.block k hk ho
theorem keepsOthers_kept {W W':World} {f:Nat} {c:Array Value} {t:TypeId} {p:Nat × Nat} (hk:Kept W W' (fun k=>k≠f)) (hf:W.heap[f]? = some (.cells c t p)):KeepsOthers W W' :=
 ⟨hk.size,fun k o h ho=>(hk.block k (Array.getElem?_eq_some_iff.1 h).1 (fun e=>by subst e;rw[hf] at h;have:=Option.some.inj h;rw[← this] at ho;cases ho)).trans h⟩
theorem FAt.setOther {w:World} {f g:Nat} {X:Fl} {v:Value} (h:FAt w f X v) {c:Array Value} {t:TypeId} {p:Nat × Nat} (hg:w.heap[g]? = some (.cells c t p)) (h1:t≠364) (h2:t≠5) (j:Nat) (u:Value):FAt (w.setCell ⟨g,j,none⟩ u) f X v :=
 ⟨(Below.heap_setCell w _ _ f (blk_ne h.blk hg (Ne.symm h1))).trans h.blk,ownsRow_setCell_other h.row (fun e=>by
  obtain⟨c',hc'⟩:=h.own e
  exact blk_ne hc' hg (Ne.symm h2) rfl) _⟩
theorem CrFl.next {W1 W w1:World} {N:Nat} {T:Tb} {vb:Nat→Value} {n:Nat} {G:Nat→Fl} {yf:Nat} {X:Fl} {vf v':Value} (h:CrFl W1 W N T vb n G) (hy:inT T yf) (hff:FAt W yf (G yf) vf) (hvo:vf.ownBlock=(vb yf).ownBlock) (h1:FAt w1 yf X v') (h2:v'.ownBlock=vf.ownBlock) (hk:Kept W w1 (fun k=>k≠yf)) :
  CrFl W1 (w1.setCell ⟨N,0,none⟩ (.int .i64 ((n+1:Nat):Int))) N T vb (n+1) (upd G yf X):=by
 have hN:N < W.heap.size:=blk_lt h.ibox
 have hNy:N≠yf:=blk_ne h.ibox hff.blk (by decide)
 have hi1:w1.heap[N]? = some (.cells #[.int .i64 (n:Int)] 3 (0,0)):=(hk.block N hN hNy).trans h.ibox
 refine⟨by rw[heap_setCell_same w1 N 0 _ _ _ hi1];rfl,fun f hf=>?_,?_⟩
 ·by_cases e:f=yf
  ·subst e
   exact⟨v',by rw[upd_same];exact h1.setOther hi1 (by decide) (by decide) _ _,h2.trans hvo⟩
  ·obtain⟨v,h3,h4⟩:=h.files f hf
   refine⟨v,?_,h4⟩
   rw[upd_other _ _ e]
   refine(h3.kept hk e (fun g hg=>?_)).setOther hi1 (by decide) (by decide) _ _
   obtain⟨c,hc⟩:=h3.own hg
   exact blk_ne hc hff.blk (by decide)
 ·refine⟨hk.os.trans h.kept.os,hk.tape.trans h.kept.tape,hk.output.trans h.kept.output,Nat.le_trans h.kept.size (by simpa using hk.size),fun k hkN ho=>?_⟩
  rw[Below.heap_setCell w1 _ _ k (show k≠N by omega),hk.block k (by omega) (ho yf hy)]
  exact h.kept.block k hkN ho
def Dv.wn (d:Dv) (v:Value):Dv:={ d with vn:=v }
structure CrSt (w W:World) (D:Nat) (d:Dv) (kv:Value) (v:Value) (T:Tb):Prop where
 tab:TabIn W D 1 (d.wn v).cells 273 v T
 kept:Kept w W (fun x=>x≠D∧d.vs.ownBlock≠some x)
 new:v.ownBlock=d.vs.ownBlock∨∃ g,v.ownBlock=some g∧w.heap.size≤g
 box:W.heap[w.heap.size]? = some (.cells #[kv] 72 (0,0))
theorem CrSt.neD {w W:World} {D:Nat} {d:Dv} {kv v:Value} {T:Tb} (h:CrSt w W D d kv v T):v.ownBlock≠some D:=fun e=>by
 obtain⟨cur,hc,_⟩:=own_blk h.tab.row e
 exact blk_ne hc h.tab.blk (by decide) rfl
theorem CrSt.step {w W w1:World} {D:Nat} {d:Dv} {kv v v':Value} {T T':Tb} (h:CrSt w W D d kv v T) (hn:TabNew W w1 D 1 (d.wn v).cells 273 v v' T') (hT:Sd.tsorted T') (hl:T'.length≤100000) (hDw:D < w.heap.size):CrSt w w1 D d kv v' T':=by
 have hb:w1.heap[D]? = some (.cells (d.wn v').cells 273 (0,0)):=hn.blk
 have hbl:w.heap.size < W.heap.size:=blk_lt h.box
 refine⟨⟨hb,rfl,hn.row,hT,hl⟩,⟨hn.kept.os.trans h.kept.os,hn.kept.tape.trans h.kept.tape,hn.kept.output.trans h.kept.output,Nat.le_trans h.kept.size hn.kept.size,fun k hk ho=>(hn.kept.block k (by omega) ⟨ho.1,fun e=>?_⟩).trans (h.kept.block k hk ho)⟩,?_,(hn.kept.block _ hbl ⟨by omega,fun e=>?_⟩).trans h.box⟩
 ·rcases h.new with e2 | ⟨g,e2,hg⟩
  ·rw[e2] at e;exact ho.2 e
  ·rw[e2] at e
   have:g=k:=Option.some.inj e
   omega
 ·rcases hn.new with e | ⟨g,e,hg⟩
  ·rw[e];exact h.new
  ·exact Or.inr ⟨g,e,by omega⟩
 ·obtain⟨cur,hc,_⟩:=own_blk h.tab.row e
  exact blk_ne hc h.box (by decide) rfl
def noPanic (Q:Exit→Act→World→Prop):Exit→Act→World→Prop
 | .panic _,_,_=>False
 | .normal,a,w=>Q .normal a w
 | .ret,a,w=>Q .ret a w
 | .exit n,a,w=>Q (.exit n) a w
 | .goto n,a,w=>Q (.goto n) a w
 | .outgrown,a,w=>Q .outgrown a w
theorem noPanic_mono {Q:Exit→Act→World→Prop}:∀ e a w,noPanic Q e a w→Q e a w:=fun e a w h=>by
 cases e <;> first | exact h | exact h.elim
def Dv.crT (d:Dv) (dir:Int):Tb:=apAll apG d.safe (d.chs.take (clampN dir d.chs.length))
def Dv.crash (d:Dv) (dir:Int) (K:Nat→Int) (vb':Nat→Value) (v vs':Value):Dv:={ d with names:=d.crT dir,safe:=d.crT dir,chs:=[],F:=(crAll K d.F (d.crT dir)).2,vb:=vb',vn:=v,vs:=vs',vc := .slice none 0 0,left := -1,armed:=false,down:=false }
def CrashPost (D:Nat) (d:Dv) (dir:Int) (kn:Nat) (K:Nat→Int) (w:World) (e:Ending) (w':World):Prop :=
 e = .returned (.tuple #[])∧∃ vb' v vs',DTo w w' D d (d.crash dir (keptK kn K) vb' v vs')
theorem armC_any (D:Nat) (l:Int) (b:Bool) (w:World) (c4:w.cell? ⟨D,4,none⟩=some (.int .i64 l)) (c5:w.cell? ⟨D,5,none⟩=some (.bool b)) (f4:w.frozen? ⟨D,4,none⟩=false) (f5:w.frozen? ⟨D,5,none⟩=false) :
  Calls Tryz.prog 136 #[.pointer (some ⟨D,0,none⟩),.int .i64 (-1)] w fun e w'=>e = .returned (.tuple #[])∧w'=(w.setCell ⟨D,5,none⟩ (.bool false)).setCell ⟨D,4,none⟩ (.int .i64 (-1)):=by
 go_enter Tryz.func136,Tryz.ntmps136
 go_wp2
 exact bodyPost_end (results_none rfl _ _ _) rfl ⟨rfl,rfl⟩
theorem dcrash_any (D:Nat) (d:Dv) (dir:Int) (kp:Option Addr) (kn kc:Nat) (K:Nat→Int) (w:World) (h:DAt w D d) (hl:d.safe.length+d.chs.length≤100000) (hK:KeepAt w kp kn K) (hsf:∀ f,(d.F f).safe≤(d.F f).bytes.size) (hM:∀ c,c ∈ d.chs→okCh c) :
  Calls Tryz.prog 213 #[.pointer (some ⟨D,0,none⟩),.int .i64 dir,.slice kp kn kc] w (CrashPost D d dir kn K w):=by
 have hblk:=h.blk
 obtain⟨p1,c1',hv1,_⟩:=Dk.osl h.rn
 obtain⟨p2,c2',hv2,_⟩:=Dk.osl h.rs
 obtain⟨p3,c3',hv3,hcap3⟩:=Dk.osl h.rc
 unfold Dv.cells at hblk
 rw[hv1,hv2,hv3] at hblk
 have d1:w.cell? ⟨D,1,none⟩=some (.slice p1 d.names.length c1'):=by rw[cell_of_row w _ 1 _ _ _ hblk];rfl
 have d2:w.cell? ⟨D,2,none⟩=some (.slice p2 d.safe.length c2'):=by rw[cell_of_row w _ 2 _ _ _ hblk];rfl
 have d3:w.cell? ⟨D,3,none⟩=some (.slice p3 d.chs.length c3'):=by rw[cell_of_row w _ 3 _ _ _ hblk];rfl
 have f1:w.frozen? ⟨D,1,none⟩=false:=by simp[World.frozen?,hblk]
 have hDw:D < w.heap.size:=blk_lt hblk
 have hcs:d.chs.length≤10000000:=by omega
 have hcm:c3'≤9223372036854775807:=by
  rcases h.rc.2 with ⟨hv,h0⟩ | ⟨_,cap',_,hv,_,_,h1,h2,_⟩
  ·rw[hv3] at hv;injection hv with _ _ e3;omega
  ·rw[hv3] at hv;injection hv with _ _ e3;unfold maxLen at h2;omega
 have HD:=hde h
 have HM:=hde hM
 have HK:=hde hK
 have hst0:CrSt w ((w.setCell ⟨D,1,none⟩ (.slice p2 d.safe.length c2')).alloc (.cells #[.slice kp kn kc] 72)) D d (.slice kp kn kc) d.vs d.safe:=by
  have hb1:=heap_setCell_same w D 1 _ _ (.slice p2 d.safe.length c2') h.blk
  have hneD:d.vs.ownBlock≠some D:=fun e=>by
   obtain⟨cur,hc,_⟩:=own_blk h.rs e
   exact blk_ne hc h.blk (by decide) rfl
  refine⟨⟨?_,rfl,(ownsRow_setCell_other h.rs hneD _).alloc _,h.ss,by omega⟩,(((Kept.refl w _).setCell (fun hk=>hk.1 rfl) _).alloc _),Or.inl rfl,?_⟩
  ·rw[Below.heap_alloc _ _ _ (by simpa using hDw),hb1,← hv2];rfl
  ·have:=heap_alloc_new (w.setCell ⟨D,1,none⟩ (.slice p2 d.safe.length c2')) (.cells #[.slice kp kn kc] 72)
   simpa using this
 have HS0:=hde hst0
 clear h hblk hst0 hM hK
 refine(callsIn_wide (n:=5)).1 ?_
 refine callsIn_of_wp_marks Tryz.func213 rfl trivial ?_ rfl
 simp only[Tryz.ntmps213,List.size_toArray,List.length_cons,List.length_nil,Nat.reduceAdd,Nat.reduceSub,Array.replicate_succ,Array.replicate_zero,List.push_toArray,List.append_toArray,List.nil_append,List.cons_append]
 refine wpIn_wide.2 (Code.wp_mono noPanic_mono ?_)
 have hcl:=clampN_le dir d.chs.length
 have hca:=fun W=>clamp_any dir d.chs.length (d.chs.length:Int) W rfl
 generalize hN:clampN dir d.chs.length=N at hcl hca
 have hp3:∀ a,p3=some a→∃ g,a=⟨g,0,none⟩:=fun a e=>by
  rcases(uh HD).rc.2 with ⟨hv,_⟩ | ⟨g,_,_,hv,_⟩
  ·rw[hv3] at hv;injection hv with e1;rw[e1] at e;cases e
  ·rw[hv3] at hv;injection hv with e1;rw[e1] at e;exact⟨g,(Option.some.inj e).symm⟩
 have hp0:p3=none→d.chs.length=0∧c3'=0:=fun e=>by
  rcases(uh HD).rc.2 with ⟨hv,h0⟩ | ⟨g,_,_,hv,_⟩
  ·rw[hv3] at hv;injection hv with _ _ e3;exact⟨h0,e3⟩
  ·rw[hv3] at hv;injection hv with e1;rw[e1] at e;cases e
 have hchs:∀ W,Kept w W (fun x=>x≠D∧d.vs.ownBlock≠some x)→W.ownsRow 0 391 3 (.slice p3 d.chs.length c3') d.chs.length (chCells d.chs):=fun W hk=>by
  rw[← hv3]
  refine own_kept (uh HD).rc hk (fun g hg=>?_)
  obtain⟨cur,hc,_⟩:=own_blk (uh HD).rc hg
  refine⟨blk_ne hc (uh HD).blk (by decide),fun e=>?_⟩
  obtain⟨cur',hc',_⟩:=own_blk (uh HD).rs e
  exact blk_ne hc hc' (by decide) rfl
 have HC:=hde hchs
 have HP0:=hde hp0
 have HP3:=hde hp3
 clear hchs hp0 hp3
 go_wp2_with fail
 obtain⟨W0,hW0⟩:∃ W0,((w.setCell ⟨D,1,none⟩ (.slice p2 d.safe.length c2')).alloc (.cells #[.slice kp kn kc] 72))=W0:=⟨_,rfl⟩
 rw[hW0] at HS0
 have dd3:W0.cell? ⟨D,3,none⟩=some (.slice p3 d.chs.length c3'):=by rw[cell_of_row W0 _ 3 _ _ _ (uh HS0).tab.blk,← hv3];rfl
 rw[hW0]
 clear d1 d2 d3 f1
 go_cut [29,30,31] from 18 (fun x y z wx=>x = .slice p3 N c3'∧y = .int .i64 N∧z = .int .i64 0∧∃ nq,wx=W0.drewN nq)
 case first =>
  cases p3 with
  | none =>
   obtain⟨h0,hc0⟩:=(uh HP0) rfl
   subst hc0
   have hN0:N=0:=by omega
   subst hN0
   rw[h0] at dd3 hca
   go_quiet (first | (go_at_call 262;exact Calls.quiet_of_same (hca _)))
   go_wp2
   go_meet
   exact⟨rfl,rfl,rfl,_,rfl⟩
  | some a3 =>
   obtain⟨g3,rfl⟩:=(uh HP3) a3 rfl
   go_quiet (first | (go_at_call 262;exact Calls.quiet_of_same (hca _)))
   go_wp2
   go_meet
   exact⟨rfl,rfl,rfl,_,rfl⟩
 case rest =>
 obtain⟨rfl,rfl,rfl,nq,rfl⟩:=hcut
 go_wp2_with fail
 go_loopw [31] (fun ii wr=>∃ (k:Nat) (v:Value),k≤N∧ii = .int .i64 k∧CrSt w wr D d (.slice kp kn kc) v (apAll apG d.safe (d.chs.take k))) (fun ii _=>N - (intOf ii).toNat)
 case atStart=>exact⟨0,d.vs,by omega,rfl,by have h:=uh HS0;exact⟨⟨h.tab.blk,h.tab.at_,h.tab.row,h.tab.srt,h.tab.len⟩,⟨h.kept.os,h.kept.tape,h.kept.output,h.kept.size,h.kept.block⟩,h.new,h.box⟩⟩
 case round =>
  obtain⟨k,v,hk,rfl,hst⟩:=hrel
  by_cases hlt:k < N
  ·have hlt':(k:Int) < (N:Int):=by omega
   have hkc:k < d.chs.length:=by omega
   obtain⟨g3,hp3⟩:∃ g3,p3=some ⟨g3,0,none⟩:=by
    rcases(uh HD).rc.2 with ⟨hv,h0⟩ | ⟨g,_,_,hv,_⟩
    ·omega
    ·rw[hv3] at hv;injection hv with e1;exact⟨g,e1⟩
   subst hp3
   have hrow:=(uh HC) wr hst.kept
   obtain⟨e0,e1,e2⟩:=ch_get d.chs k hkc
   obtain⟨pf,hpf⟩:∃ pf,optPtr (d.chs[k]).file = .pointer pf:=by cases (d.chs[k]).file <;> exact⟨_,rfl⟩
   have x0:wr.cell? ⟨g3,k * 3,none⟩=some (.string (d.chs[k]).gone):=(hrow.cellAt (k * 3) (by omega)).trans e0
   have x1:wr.cell? ⟨g3,k * 3+1,none⟩=some (.string (d.chs[k]).name):=(hrow.cellAt (k * 3+1) (by omega)).trans e1
   have x2:wr.cell? ⟨g3,k * 3+2,none⟩=some (.pointer pf):=(hrow.cellAt (k * 3+2) (by omega)).trans (e2.trans (by rw[hpf]))
   have hmk:=fun W T v C h1 h2=>okCh_makes D (d.chs[k]) ((uh HM) _ (List.getElem_mem _)) W C v T h1 h2
   rw[hpf] at hmk
   have hmk2:∀ o,Calls Tryz.prog 263 #[.agg #[.string (d.chs[k]).gone,.string (d.chs[k]).name,.pointer pf],.pointer (some ⟨D,1,none⟩)] (wr.alloc o).drew fun e w'=>e = .returned (.tuple #[])∧∃ v',TabNew (wr.alloc o).drew w' D 1 (d.wn v).cells 273 v v' (apG (apAll apG d.safe (d.chs.take k)) (d.chs[k])):=fun o =>
    hmk _ _ _ _ (hst.tab.below (((Below.refl _ wr).alloc nlr o).drew)) hst.neD
   obtain⟨cg,hcg⟩:∃ cg,(d.chs[k]).gone=cg:=⟨_,rfl⟩
   obtain⟨cn,hcn⟩:∃ cn,(d.chs[k]).name=cn:=⟨_,rfl⟩
   rw[hcg] at x0 hmk2
   rw[hcn] at x1 hmk2
   have HMK:=hde hmk2
   have HST:=hde hst
   clear hmk hmk2 e0 e1 e2 hrow hst hpf hcg hcn
   go_wp2_with fail
   go_region_with (go_at_call 263;refine((uh HMK) _).mono ?_;rintro e w1 ⟨rfl,v',hn⟩)
   have hst:=uh HST
   have hk1:(apAll apG d.safe (d.chs.take (k+1)))=apG (apAll apG d.safe (d.chs.take k)) (d.chs[k]):=by
    unfold apAll;rw[List.take_succ_eq_append_getElem hkc,List.foldl_append];rfl
   have hl1:(apAll apG d.safe (d.chs.take (k+1))).length≤100000:=by
    have h1:=ap_len (d.chs.take (k+1)) d.safe
    have h2:(d.chs.take (k+1)).length≤d.chs.length:=by rw[List.length_take];omega
    omega
   have hs1:=ap_sorted (uh HD).ss (d.chs.take (k+1))
   rw[hk1] at hl1 hs1
   have hst1:=hst.step (TabNew.from_alloc (TabNew.from_drew hn)) hs1 hl1 hDw
   rw[← hk1] at hst1
   have H1:=hde hst1
   clear hst hst1 hn hk1 hl1 hs1
   go_wp2
   go_roundw
   case rel=>exact⟨k+1,v',by omega,by go_num,uh H1⟩
   case measure=>simp[intOf];omega
  ·have hge:¬ (k:Int) < (N:Int):=by omega
   obtain rfl:k=N:=by omega
   have hall:=fun W p0=>(callsIn_wide (n:=5)).1 (all_in Fence.wide 5 trivial rfl p0 W)
   generalize hT:apAll apG d.safe (d.chs.take k)=T at hst
   have HST:=hde hst
   clear hst
   go_wp2_with (go_at_call 234;refine(hall _ _).mono ?_;rintro e w' ⟨rfl,hw'⟩;subst hw')
   refine(wpIn_wide (n:=5)).1 ?_
   have hst:=uh HST
   have hwl:w.heap.size < wr.heap.size:=blk_lt hst.box
   obtain⟨W1,hW1⟩:∃ W1,((wr.alloc (.cells #[.int .i64 0] 3)).alloc (.cells #[.pointer (some ⟨D,1,none⟩)] 393))=W1:=⟨_,rfl⟩
   have hsz:W1.heap.size=wr.heap.size+2:=by rw[← hW1];simp
   have hB0:Below wr.heap.size wr W1:=by rw[← hW1];exact((Below.refl _ wr).alloc nlr _).alloc (by simp) _
   have hU0:W1.heap[wr.heap.size]? = some (.cells #[.int .i64 0] 3 (0,0)):=by
    rw[← hW1,Below.heap_alloc _ _ _ (by simp)];exact World.alloc_heap_new wr _
   have hP0:W1.cell? ⟨wr.heap.size+1,0,none⟩=some (.pointer (some ⟨D,1,none⟩)):=by
    have:=World.alloc_heap_new (wr.alloc (.cells #[.int .i64 0] 3)) (.cells #[.pointer (some ⟨D,1,none⟩)] 393)
    rw[World.size_alloc,hW1] at this
    simp[World.cell?,this]
   obtain⟨p,cap,hvp,hents⟩:=ents_of_own hst.tab.row
   have hDr:D < wr.heap.size:=blk_lt hst.tab.blk
   have hT0:W1.cell? ⟨D,1,none⟩=some (.slice p T.length cap):=by
    rw[hB0.cell (p:=⟨D,1,none⟩) hDr,hst.tab.cell,← hvp]
   have hhas:∀ f,inT T f→f ∈ d.fs:=fun f ⟨a,ha⟩=>by
    rw[← hT] at ha
    rcases ap_mem _ _ _ ha with h1 | ⟨c,hc,e⟩
    ·exact(uh HD).inS _ h1
    ·exact(uh HD).inC c (List.mem_of_mem_take hc) f e
   have hfa:∀ f,f ∈ d.fs→FAt wr f (d.F f) (d.vb f):=fun f hf=>by
    have h1:=(uh HD).files f hf
    refine h1.kept hst.kept ⟨blk_ne h1.blk (uh HD).blk (by decide),fun e=>?_⟩ (fun g hg=>?_)
    ·obtain⟨c,hc,_⟩:=own_blk (uh HD).rs e;exact blk_ne hc h1.blk (by decide) rfl
    ·obtain⟨c,hc⟩:=h1.own hg
     refine⟨blk_ne hc (uh HD).blk (by decide),fun e=>?_⟩
     obtain⟨c',hc',_⟩:=own_blk (uh HD).rs e;exact blk_ne hc' hc (by decide) rfl
   have hfr:∀ f,inT T f→FAt wr f (d.F f) (d.vb f):=fun f hf=>hfa f (hhas f hf)
   have hC0:∀ j (hj:j < T.length),∃ g,p=some ⟨g,0,none⟩∧g < wr.heap.size∧(∀ f,inT T f→g≠f)∧W1.cell? ⟨g,j * 2,none⟩=some (.string T[j].1)∧W1.cell? ⟨g,j * 2+1,none⟩=some (fptr T[j].2):=fun j hj=>by
    obtain⟨g,e,c0,c1⟩:=hents j hj
    have hg:=World.block_lt_of_cell? wr _ c0
    refine⟨g,e,hg,fun f hf=>?_,(hB0.cell (p:=⟨g,j * 2,none⟩) hg).trans c0,(hB0.cell (p:=⟨g,j * 2+1,none⟩) hg).trans c1⟩
    obtain⟨c,hc,_⟩:=own_blk hst.tab.row (g:=g) (by rw[hvp,e];rfl)
    exact blk_ne hc (hfr f hf).blk (by decide)
   have hcf0:CrFl W1 W1 wr.heap.size T d.vb 0 d.F:=⟨hU0,fun f hf=>⟨d.vb f,⟨(hB0.block f (blk_lt (hfr f hf).blk)).trans (hfr f hf).blk,obl (hfr f hf).row hB0⟩,rfl⟩,KeptN.refl _ _ _⟩
   rw[hW1]
   clear hW1 hents
   refine wpIn_rangeFunc_ownG rfl (by omega) (gf:=291) (lb := #[.pointer (some ⟨wr.heap.size+1,0,none⟩)]) rfl trivial (enters_of Tryz.func291 (by kernel_rfl) rfl)
    (all_stops _ _ trivial rfl (by omega) (wr.heap.size+1) D 1 wr.heap.size (fun k=>∀ f,inT T f→k≠f) p cap T hst.tab.len W1 (by omega) (by omega) (by omega) hP0 hT0 hC0) (fun h k=>h.trans k) (keptN_bk (by omega)) (Below.refl _ _) (fun _=>rfl)
    (fun pre W=>CrFl W1 W wr.heap.size T d.vb pre.length (crAll (keptK kn K) d.F (pre.map (·.1))).2)
    (fun _ _ _=>False)
    (CrFl.own _ (by omega))
    (fun _ _ _ _ _ hs _ _=>hs)
    hcf0 ?a1 ?assign ?body ?done ?stop
   case assign =>
    intro l y W K hK
    gi_wp2
    exact hK
   case stop =>
    intro D' c pre W _ _ h
    exact h.elim
   case body =>
    rintro l' pre ⟨⟨ya,yf⟩,hy⟩ W hcf hlt
    have hG:=crAll_safe (keptK kn K) d.F (pre.map (·.1)) hsf
    have hnx:(crAll (keptK kn K) d.F ((pre++[(⟨(ya,yf),hy⟩:{ x:ByteArray × Nat // x ∈ T })]).map (·.1))).2=upd (crAll (keptK kn K) d.F (pre.map (·.1))).2 yf (crashF ((crAll (keptK kn K) d.F (pre.map (·.1))).2 yf) (keptK kn K pre.length)):=by
     rw[List.map_append,List.map_cons,List.map_nil,crAll_snoc]
     unfold crStep
     rw[crAll_fst,List.length_map]
    have HNX:=hde hnx
    generalize (crAll (keptK kn K) d.F (pre.map (·.1))).2=G at hcf hG HNX
    clear hnx
    have hyT:inT T yf:=⟨ya,hy⟩
    obtain⟨vf,hff,hvo⟩:=hcf.files yf hyT
    have hkw:∀ g,g < w.heap.size→(g≠D∧d.vs.ownBlock≠some g)→(∀ f,inT T f→g≠f)→W.heap[g]? = w.heap[g]?:=fun g hg h1 h2=>by
     rw[hcf.kept.block g (by omega) h2,hB0.block g (by omega),hst.kept.block g hg h1]
    have hkb:W.heap[w.heap.size]? = some (.cells #[.slice kp kn kc] 72 (0,0)):=by
     rw[hcf.kept.block w.heap.size hwl (fun f hf=>blk_ne hst.box (hfr f hf).blk (by decide)),hB0.block w.heap.size hwl]
     exact hst.box
    have hKW:KeepAt W kp kn K:=⟨fun j hj=>by
     obtain⟨g,o,e,hc,cur,fr,hd⟩:=(uh HK).cell j hj
     have hgl:g < w.heap.size:=blk_lt hd
     have hd2:=uh HD
     have hsame:W.heap[g]? = w.heap[g]?:=by
      refine hkw g hgl ⟨blk_ne hd hd2.blk (by decide),fun e2=>?_⟩ (fun f hf=>blk_ne hd (hd2.files f (hhas f hf)).blk (by decide))
      obtain⟨c',hc',_⟩:=own_blk hd2.rs e2;exact blk_ne hd hc' (by decide) rfl
     exact⟨g,o,e,(World.cell?_of_block (w:=w) hsame).trans hc,cur,fr,hsame.trans hd⟩,(uh HK).small⟩
    have hk0:=keptOf_any kp kn kc K pre.length W hKW
    have hcr:=crash_any yf (G yf) vf (keptK kn K pre.length) W hff (hG yf)
    have kc0:W.cell? ⟨w.heap.size,0,none⟩=some (.slice kp kn kc):=by rw[cell_of_row W _ 0 _ _ _ hkb];rfl
    have ic0:W.cell? ⟨wr.heap.size,0,none⟩=some (.int .i64 (pre.length:Int)):=by rw[cell_of_row W _ 0 _ _ _ hcf.ibox];rfl
    have hNl:wr.heap.size < W.heap.size:=blk_lt hcf.ibox
    have hNy:wr.heap.size≠yf:=blk_ne hcf.ibox hff.blk (by decide)
    have hpl:pre.length < 100000:=by have:=hst.tab.len;omega
    have HCF:=hde hcf
    have HFF:=hde hff
    have HVO:=hde hvo
    have HYT:=hde hyT
    have HIB:=hde hcf.ibox
    clear hKW hkb hkw hff hvo hyT hcf
    unfold fptr
    gi_wp2_with (first
     | (refine⟨trivial,?_⟩;gi_at_call 265;refine(CallsIn.inRound l' ((callsIn_wide (n:=_)).2 hk0)).mono ?_;rintro e w' ⟨rfl,hw⟩;obtain rfl:=hw.symm)
     | (refine⟨trivial,?_⟩;gi_at_call 264;refine(CallsIn.inRound l' ((callsIn_wide (n:=_)).2 hcr)).mono ?_;rintro e w1 ⟨rfl,v',hf1,hvo1,hk1⟩;have hib1:=(hk1.block wr.heap.size hNl hNy).trans (uh HIB);have ic1:w1.cell? ⟨wr.heap.size,0,none⟩=some (.int .i64 (pre.length:Int)):=(cell_of_row w1 _ 0 _ _ _ hib1).trans rfl;have if1:w1.frozen? ⟨wr.heap.size,0,none⟩=false:=(by simp[World.frozen?,hib1])))
    have hcf:=uh HCF
    have hn1:=hcf.next (uh HYT) (uh HFF) (uh HVO) hf1 hvo1 hk1
    have ei:((pre.length:Int)+1)=((pre.length+1:Nat):Int):=by omega
    have hkn:KeptN wr.heap.size (fun k=>∀ f,inT T f→k≠f) W (w1.setCell ⟨wr.heap.size,0,none⟩ (.int .i64 ((pre.length+1:Nat):Int))):=
     ⟨hk1.os,hk1.tape,hk1.output,by simpa using hk1.size,fun k hkN ho=>by
      rw[Below.heap_setCell w1 _ _ k (show k≠wr.heap.size by omega),hk1.block k (by omega) (ho yf (uh HYT))]⟩
    rw[ei]
    exact⟨((keepsOthers_kept hk1 (uh HFF).blk).trans (KeepsOthers.setCell _ _ _)).from _,hkn,by show CrFl _ _ _ _ _ (pre++[_]).length _;rw[List.length_append,uh HNX];exact hn1⟩
   case done =>
    rintro Dd ys W hDd hys hcf hKd
    have hmap:ys.map (·.1)=T:=by rw[hys,List.attach_map_subtype_val]
    rw[hmap] at hcf
    have hblW:W.heap[D]? = some (.cells (d.wn v).cells 273 (0,0)):=by
     rw[hcf.kept.block D hDr (fun f hf=>blk_ne hst.tab.blk (hfr f hf).blk (by decide)),hB0.block D hDr]
     exact hst.tab.blk
    have hroW:W.ownsRow 0 419 2 v T.length (tbCells T):=by
     have h1:=obl hst.tab.row hB0
     obtain⟨q1,q2⟩:=h1
     refine⟨q1,?_⟩
     rcases q2 with q2 | ⟨g,cap',cur,hv,hB,hg,r⟩
     ·exact .inl q2
     ·refine .inr ⟨g,cap',cur,hv,hB,?_,r⟩
      obtain⟨c,hc,_⟩:=own_blk hst.tab.row (g:=g) (by rw[hv];rfl)
      rw[hcf.kept.block g (blk_lt hc) (fun f hf=>blk_ne hc (hfr f hf).blk (by decide)),hg]
    have hms:=makeSafe_any D (d.wn v) T W ⟨hblW,rfl,hroW,hst.tab.srt,hst.tab.len⟩ (by show ∃ p n c,d.vs=_;rw[hv2];exact⟨_,_,_,rfl⟩) (by show ∃ p n c,d.vc=_;rw[hv3];exact⟨_,_,_,rfl⟩)
    have HCF:=hde hcf
    clear hblW hcf hys hmap
    go_wp2_with fail
    refine hms.mono ?_
    rintro e W2 ⟨rfl,vs',hb2,hr2,hk2,hn2⟩
    have g4:W2.cell? ⟨D,4,none⟩=some (.int .i64 d.left):=by rw[cell_of_row W2 _ 4 _ _ _ hb2];rfl
    have g5:W2.cell? ⟨D,5,none⟩=some (.bool d.armed):=by rw[cell_of_row W2 _ 5 _ _ _ hb2];rfl
    have g6:W2.cell? ⟨D,6,none⟩=some (.bool d.down):=by rw[cell_of_row W2 _ 6 _ _ _ hb2];rfl
    have z4:W2.frozen? ⟨D,4,none⟩=false:=by simp[World.frozen?,hb2]
    have z5:W2.frozen? ⟨D,5,none⟩=false:=by simp[World.frozen?,hb2]
    have z6:W2.frozen? ⟨D,6,none⟩=false:=by simp[World.frozen?,hb2]
    have H2:=hde (And.intro hb2 (And.intro hr2 (And.intro hk2 hn2)))
    clear hb2 hr2 hk2 hn2 hms
    go_wp2_with fail
    refine(armC_any D d.left d.armed _ ((World.cell?_setCell_other _ _ _ _ (by intro e;simp at e)).trans g4) ((World.cell?_setCell_other _ _ _ _ (by intro e;simp at e)).trans g5) (by simp[z4]) (by simp[z5])).mono ?_
    rintro e W3 ⟨rfl,hW3⟩
    obtain⟨hb2,hr2,hk2,hn2⟩:=uh H2
    have hb3:W3.heap[D]? = some (.cells ({ d with vn:=v,vs:=vs',vc := .slice none 0 0,left := -1,armed:=false,down:=false }:Dv).cells 273 (0,0)):=by
     rw[hW3]
     have e1:=heap_setCell_same W2 D 6 _ _ (.bool false) hb2
     have e2:=heap_setCell_same _ D 5 _ _ (.bool false) e1
     have e3:=heap_setCell_same _ D 4 _ _ (.int .i64 (-1)) e2
     exact e3
    have hk3:Kept W W3 (fun k=>k≠D):=by
     rw[hW3]
     exact((hk2.setCell (fun h=>h rfl) _).setCell (fun h=>h rfl) _).setCell (fun h=>h rfl) _
    have hr3:W3.ownsRow 0 419 2 vs' T.length (tbCells T):=by
     rw[hW3]
     have hD':vs'.ownBlock≠some D:=fun e=>by
      have:=hn2 D e
      have:=blk_lt (uh HCF).ibox
      omega
     exact ownsRow_setCell_other (ownsRow_setCell_other (ownsRow_setCell_other hr2 hD' _) hD' _) hD' _
    have hDd3:W3.heap[Dd]? = some (.deferred (some [])):=(hk3.block Dd (Array.getElem?_eq_some_iff.1 hKd).1 (by omega)).trans hKd
    clear hW3
    go_wp2
    refine(show bodyPostM Fence.wide 5 Tryz.prog _ _ Exit.normal _ W3 from ?_)
    refine⟨by simp,.inl ⟨_,_,rfl,run_takeDeferred hDd3,?_⟩⟩
    have hgo:=grownBy_putObj' W3 Dd (.deferred none)
    have hro:∀ r,some Dd=some r→0≤r∧∃ o:Obj,W3.heap[r]? = some o∧o.isCells=false:=fun r e=>by
     have:Dd=r:=Option.some.inj e
     subst this
     exact⟨Nat.zero_le _,_,hDd3,rfl⟩
    have hcf:=uh HCF
    have hd:=uh HD
    have hTe:d.crT dir=T:=by unfold Dv.crT;rw[hN,hT]
    have hWl:W1.heap.size≤W.heap.size:=hcf.kept.size
    have hvD:v.ownBlock≠some D:=hst.neD
    have hvl:∀ g,v.ownBlock=some g→g < W.heap.size:=fun g hg=>own_lt hroW hg
    have hDW:W.heap[D]? = some (.cells (d.wn v).cells 273 (0,0)):=by
     rw[hcf.kept.block D hDr (fun f hf=>blk_ne hst.tab.blk (hfr f hf).blk (by decide)),hB0.block D hDr]
     exact hst.tab.blk
    have hfi:∀ f,f ∈ d.fs→∃ v',FAt W3 f ((crAll (keptK kn K) d.F T).2 f) v'∧v'.ownBlock=(d.vb f).ownBlock:=fun f hf=>by
     by_cases hfT:inT T f
     ·obtain⟨v',h1,h2⟩:=hcf.files f hfT
      refine⟨v',h1.kept hk3 (blk_ne h1.blk hDW (by decide)) (fun g hg=>?_),h2⟩
      obtain⟨c,hc⟩:=h1.own hg
      exact blk_ne hc hDW (by decide)
     ·have h1:=hfa f hf
      have hfl:=blk_lt h1.blk
      refine⟨d.vb f,?_,rfl⟩
      rw[crAll_other _ _ hfT]
      have hne:∀ k,inT T k→f≠k:=fun k hk e=>hfT (e ▸ hk)
      have hb:W3.heap[f]? = wr.heap[f]?:=by
       rw[hk3.block f (by omega) (blk_ne h1.blk hst.tab.blk (by decide)),hcf.kept.block f hfl hne,hB0.block f hfl]
      refine⟨hb.trans h1.blk,?_⟩
      obtain⟨q1,q2⟩:=h1.row
      refine⟨q1,?_⟩
      rcases q2 with q2 | ⟨g,cap',cur,hv,hB,hg,r⟩
      ·exact .inl q2
      ·refine .inr ⟨g,cap',cur,hv,hB,?_,r⟩
       have hgl:=blk_lt hg
       rw[hk3.block g (by omega) (blk_ne hg hst.tab.blk (by decide)),hcf.kept.block g hgl (fun k hk=>blk_ne hg (hfr k hk).blk (by decide)),hB0.block g hgl]
       exact hg
    have hown:∀ k,¬ dOwn D d k→k < w.heap.size→(k≠D∧d.vs.ownBlock≠some k∧∀ f,inT T f→k≠f):=fun k hk _=>⟨fun e=>hk (Or.inl e),fun e=>hk (Or.inr (Or.inr (Or.inl e))),fun f hf e=>hk (Or.inr (Or.inr (Or.inr (Or.inr ⟨f,hhas f hf,Or.inl e⟩))))⟩
    refine⟨.tuple #[],by simp[results,Tryz.results213,go_sem],rfl,?_⟩
    have hdec:∀ f,Decidable (f ∈ d.fs):=fun f=>Classical.propDecidable _
    refine⟨fun f=>if h:f ∈ d.fs then Classical.choose (hfi f h) else .slice none 0 0,v,vs',⟨⟨?_,?_,?_,World.ownsRow_nil _ _ _ _,?_,?_,fun g hg e=>?_,fun f hf=>?_,fun f f' hf hf' hne g hg=>?_,fun p hp=>?_,fun p hp=>?_,fun c hc=>(by cases hc)⟩,?_,fun k hk=>?_⟩⟩
    ·exact cells_stay hgo hro hb3
    ·show World.ownsRow _ 0 _ 2 v (d.crT dir).length (tbCells (d.crT dir))
     rw[hTe]
     exact own_stay hgo hro (own_kept hroW hk3 (fun g hg e=>hvD (by rw[hg,e])))
    ·show World.ownsRow _ 0 _ 2 vs' (d.crT dir).length (tbCells (d.crT dir))
     rw[hTe]
     exact own_stay hgo hro hr3
    ·show Sd.tsorted (d.crT dir);rw[hTe];exact hst.tab.srt
    ·show Sd.tsorted (d.crT dir);rw[hTe];exact hst.tab.srt
    ·have:=hn2 g e
     have:=hvl g hg
     omega
    ·have hf:f ∈ d.fs:=hf
     show FAt _ f ((crAll (keptK kn K) d.F (d.crT dir)).2 f) (if h:f ∈ d.fs then Classical.choose (hfi f h) else .slice none 0 0)
     rw[hTe,dif_pos hf]
     have h1:=(Classical.choose_spec (hfi f hf)).1
     exact⟨cells_stay hgo hro h1.blk,own_stay hgo hro h1.row⟩
    ·have hf:f ∈ d.fs:=hf
     have hf':f' ∈ d.fs:=hf'
     have hg2:(if h:f ∈ d.fs then Classical.choose (hfi f h) else Value.slice none 0 0).ownBlock=some g:=hg
     show (if h:f' ∈ d.fs then Classical.choose (hfi f' h) else Value.slice none 0 0).ownBlock≠some g
     rw[dif_pos hf,(Classical.choose_spec (hfi f hf)).2] at hg2
     rw[dif_pos hf',(Classical.choose_spec (hfi f' hf')).2]
     exact hd.fap f f' hf hf' hne g hg2
    ·have hp:p ∈ d.crT dir:=hp
     rw[hTe] at hp
     exact hhas p.2 ⟨p.1,hp⟩
    ·have hp:p ∈ d.crT dir:=hp
     rw[hTe] at hp
     exact hhas p.2 ⟨p.1,hp⟩
    ·refine⟨hgo.os.trans (hk3.os.trans (hcf.kept.os.trans (hB0.os.trans hst.kept.os))),hgo.tape.trans (hk3.tape.trans (hcf.kept.tape.trans (hB0.tape.trans hst.kept.tape))),hgo.output.trans (hk3.output.trans (hcf.kept.output.trans (hB0.output.trans hst.kept.output))),?_,fun x hxw hx=>?_⟩
     ·have q1:=hgo.size
      have q2:=hk3.size
      have q3:=hst.kept.size
      omega
     ·obtain⟨x1,x2,x3⟩:=hown x hx hxw
      have q3:=hst.kept.size
      rw[hgo.block x (by have:=hk3.size;omega) (by simp;omega),hk3.block x (by omega) x1,hcf.kept.block x (by omega) x3,hB0.block x (by omega),hst.kept.block x hxw ⟨x1,x2⟩]
    ·rcases hk with e | e | e | e | ⟨f,hf,e⟩
     ·exact Or.inl (Or.inl e)
     ·rcases hst.new with e2 | ⟨g',e2,hg'⟩
      ·exact Or.inl (Or.inr (Or.inr (Or.inl (e2 ▸ e))))
      ·have e:v.ownBlock=some k:=e
       rw[e2] at e
       have:=Option.some.inj e
       exact Or.inr (by omega)
     ·have:=hn2 k e
      have:=hst.kept.size
      exact Or.inr (by omega)
     ·simp[Dv.crash,Value.ownBlock] at e
     ·have hf:f ∈ d.fs:=hf
      refine Or.inl (Or.inr (Or.inr (Or.inr (Or.inr ⟨f,hf,?_⟩))))
      rcases e with e | e
      ·exact Or.inl e
      ·have e:(if h:f ∈ d.fs then Classical.choose (hfi f h) else Value.slice none 0 0).ownBlock=some k:=e
       rw[dif_pos hf,(Classical.choose_spec (hfi f hf)).2] at e
       exact Or.inr e
end Go.Proofs.YteflnddphpjahaaGreatDoor.Pk
