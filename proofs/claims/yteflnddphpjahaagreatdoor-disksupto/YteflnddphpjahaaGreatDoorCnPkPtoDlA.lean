import Derived.Test.YteflnddphpjahaaGreatDoorCnPkNtoPkO
import Derived.Test.YteflnddphpjahaaGreatDoorCnPlAtoCom
import Derived.Test.YteflnddphpjahaaGreatDoorCnDtAtoDtB
import Derived.WalkKit
import Derived.Deep.AppendLies
import Derived.Test.YteflnddphpjahaaGreatDoorProg
import Derived.Test.YteflnddphpjahaaGreatDoorCnRefFtoGMem
import Derived.Outline
import Derived.Deep.DeepMust
import Derived.BigQuiet
set_option linter.unusedVariables false
set_option linter.unusedSimpArgs false
set_option maxRecDepth 100000
set_option maxHeartbeats 16000000
namespace Go.Proofs.YteflnddphpjahaaGreatDoor.Pk
open Go.RowKit
open Sd (Tb)
open Rd (Rk tab e0 RAt rOwn RTo opV TcPost)
open Dk (Kept own_kept)
theorem ap_bm (blk:Nat→Nat):∀ (C:List Rd.Ch) (L:Tb),(∀ p ∈ L,¬ p.1=e0)→apAll apG ((tab L).map (bm blk)) (C.map (cm blk))=(tab (C.foldl Rd.ap L)).map (bm blk)
 | [],L,_=>rfl
 | c :: C,L,h=>by
  have hT:Sd.thas (tab L) e0=false:=by
   cases hh:Sd.thas (tab L) e0 with
   | false=>rfl
   | true =>
    obtain⟨v,hv⟩:=Sd.thas_mem.1 hh
    have hg:=(Sd.tget_mem (Rd.tab_sorted L)).2 hv
    rw[Rd.tget_tab,Rd.rget_none.2 h] at hg
    cases hg
  show apAll apG (apG ((tab L).map (bm blk)) (cm blk c)) (C.map (cm blk))=(tab (C.foldl Rd.ap (Rd.ap L c))).map (bm blk)
  rw[apG_bm blk hT,← Rd.tab_ap (Rd.rget_none.2 h)]
  exact ap_bm blk C (Rd.ap L c) (Rd.ap_some h c)
theorem Is.crT {d:Dv} {R:Rk} {blk:Nat→Nat} (h:Is d R blk) (n:Int):d.crT n=(tab (R.dir n.toNat)).map (bm blk):=by
 unfold Dv.crT
 rw[h.safe,h.chs,List.length_map,← List.map_take,ap_bm blk _ _ h.ok.some]
 have e:R.chs.take (clampN n R.chs.length)=R.chs.take n.toNat:=by
  unfold clampN
  by_cases hn:n.toNat≤R.chs.length
  ·congr 1;omega
  ·rw[List.take_of_length_le (by omega),List.take_of_length_le (by omega)]
 rw[e]
 unfold Rk.dir
 rw[Rd.wo_self h.ok.some]
def toP (f:Rd.Fl):Fl:=⟨f.bytes,f.safe⟩
theorem cr_bm (K:Nat→Int) (blk:Nat→Nat) (m:Nat) (hinj:∀ i j,i < m→j < m→blk i=blk j→i=j):∀ (L:Tb) (i:Nat) (Fs:List Rd.Fl) (G:Nat→Fl),Fs.length=m→(∀ p ∈ L,p.2 < m)→(∀ j,j < m→G (blk j)=toP (Fs.getD j ⟨e0,0⟩))→∀ j,j < m→((L.map (bm blk)).foldl (crStep K) (i,G)).2 (blk j)=toP ((Rd.crFs K i Fs L).getD j ⟨e0,0⟩)
 | [],_,_,_,_,_,h=>h
 | p :: L,i,Fs,G,hl,hp,h=>by
  refine cr_bm K blk m hinj L (i+1) _ _ (by rw[List.length_set];exact hl) (fun q hq=>hp q (List.mem_cons_of_mem _ hq)) (fun j hj=>?_)
  have hpm:=hp p (List.mem_cons_self ..)
  show upd G (blk p.2) (crashF (G (blk p.2)) (K i)) (blk j)=_
  rw[List.getD_eq_getElem?_getD]
  by_cases e:j=p.2
  ·rw[e,upd_same,List.getElem?_set_self (by omega),h _ hpm];rfl
  ·rw[upd_other _ _ (fun e2=>e (hinj j p.2 hj hpm e2)),List.getElem?_set_ne (fun e2=>e e2.symm),h j hj,List.getD_eq_getElem?_getD]
theorem crash_ok {R:Rk} (h:R.Ok) (n:Int) (K:Nat→Int) (hc:∀ f ∈ (R.crash n K).files,f.safe≤f.bytes.size):(R.crash n K).Ok:=by
 refine⟨Rd.sorted_keyed (Rd.tab_sorted _),fun p hp=>?_,fun p hp=>?_,fun c hc=>(by cases hc),hc⟩
 ·exact h.dir_some _ p ((Rd.tab_mem (h.dir_keyed _)).1 hp)
 ·show p.2 < (Rd.crFs K 0 R.files (tab (R.dir n.toNat))).length
  rw[Rd.crFs_len]
  exact h.dir_file _ p ((Rd.tab_mem (h.dir_keyed _)).1 hp)
theorem Is.crash {d:Dv} {R:Rk} {blk:Nat→Nat} (h:Is d R blk) (n:Int) (K:Nat→Int) (vb':Nat→Value) (v vs':Value):Is (d.crash n K vb' v vs') (R.crash n K) blk:=by
 have hT:=h.crT n
 have hl:(R.crash n K).files.length=R.files.length:=Rd.crFs_len _ _ _ _
 have hF:∀ i,i < R.files.length→(crAll K d.F (d.crT n)).2 (blk i)=toP ((R.crash n K).fl i):=fun i hi=>by
  rw[hT]
  exact cr_bm K blk R.files.length h.inj (tab (R.dir n.toNat)) 0 R.files d.F rfl (fun p hp=>h.ok.dir_file _ p ((Rd.tab_mem (h.ok.dir_keyed _)).1 hp)) (fun j hj=>h.F j hj) i hi
 have hFs:=crAll_safe K d.F (d.crT n) h.Fs
 have hok:(R.crash n K).Ok:=crash_ok h.ok n K (fun f hf=>by
  obtain⟨i,hi,rfl⟩:=List.mem_iff_getElem.1 hf
  have h1:=hFs (blk i)
  rw[hF i (by omega),Rd.fl_at _ hi] at h1
  exact h1)
 have hnow:(R.crash n K).now=tab (R.dir n.toNat):=by
  show Rd.wo (tab (R.dir n.toNat)) e0=_
  exact Rd.wo_self (fun p hp=>h.ok.dir_some _ p ((Rd.tab_mem (h.ok.dir_keyed _)).1 hp))
 have hself:=Rd.tab_self (Rd.tab_sorted (R.dir n.toNat))
 refine⟨h.q,?_,?_,rfl,?_,fun i j hi hj e=>?_,fun i hi=>?_,hFs,rfl,Or.inr (Or.inl ⟨rfl,rfl⟩),⟨by show (-1:Int)≤-1;omega,by show (-1:Int)≤_;omega⟩,hok,fun c hc=>(by cases hc)⟩
 ·show d.crT n=_
  rw[hnow,hself];exact hT
 ·show d.crT n=(tab (tab (R.dir n.toNat))).map (bm blk)
  rw[hself];exact hT
 ·show d.fs=_
  rw[hl];exact h.fs
 ·rw[hl] at hi hj;exact h.inj i j hi hj e
 ·rw[hl] at hi;exact hF i hi
theorem p_crash {w0 w:World} {D E:Nat} {R:Rk} {O:Nat→Prop} {n b:Nat} (dir:Int) (kp:Option Addr) (kn kc:Nat) (K:Nat→Int) (h:Half w0 w D E R R O) (hs:Sm R n b) (hn:n≤100000) (hK:KeepAt w kp kn K) :
  Calls Tryz.prog 138 #[.pointer (some ⟨D,0,none⟩),.int .i64 dir,.slice kp kn kc] w (NP w0 D E (R.crash dir (Rd.kp kn K)) R O):=by
 obtain⟨d,blk,vf,vs,vc,h1,h2,h3,h4,h5,h6⟩:=h
 obtain⟨l1,l2⟩:=h2.dlen hs
 have hc:=dcrash_any D d dir kp kn kc K w h1 (by omega) hK h2.Fs (fun c hc=>by
  rw[h2.chs] at hc
  obtain⟨x,hx,rfl⟩:=List.mem_map.1 hc
  by_cases e:x.comes=e0
  ·refine Or.inr ⟨if_pos e,e,?_⟩
   rcases h2.okc x hx with h | h
   ·exact absurd e h
   ·exact h
  ·exact Or.inl ⟨_,if_neg e,e⟩)
 have H:=hde (fun w1 vb' v vs' (ht:DTo w w1 D d (d.crash dir (keptK kn K) vb' v vs'))=>Half.dstep (Q:=R) h3 h4 h5 h6 ht (h2.crash dir (keptK kn K) vb' v vs'))
 clear h1 h2 h3 h4 h5 h6 hK
 go_enter Tryz.func138,Tryz.ntmps138
 go_wp2_with fail
 refine hc.mono ?_
 rintro e w1 ⟨rfl,vb',v,vs',ht⟩
 have HT:=hde ht
 clear ht hc
 go_wp2
 exact bodyPost_end (results_none rfl _ _ _) rfl ⟨rfl,(uh H) _ _ _ _ (uh HT)⟩
theorem r_crash {w0 w:World} {D E:Nat} {Q R:Rk} {O:Nat→Prop} (dir:Int) (kpp:Option Addr) (kn kc:Nat) (K:Nat→Int) (h:Half w0 w D E Q R O) (hf:R.Fit) (hK:Rd.KpAt w kpp kn K) (hap:0 < kn→∀ g o,kpp=some ⟨g,o,none⟩→g < w0.heap.size∧¬ O g) :
  Calls Tryz.prog 139 #[.pointer (some ⟨E,0,none⟩),.int .i64 dir,.slice kpp kn kc] w (NP w0 D E Q (R.crash dir (Rd.kp kn K)) O):=by
 obtain⟨d,blk,vf,vs,vc,h1,h2,h3,h4,h5,h6⟩:=h
 refine(Rd.rcrash_any E R vf vs vc dir kpp kn kc K w h3 hf hK (fun h0 g o e hr=>?_)).mono ?_
 ·obtain⟨a1,a2⟩:=hap h0 g o e
  rcases h6 g (Or.inr hr) with q | q
  ·exact a2 q
  ·omega
 ·rintro e w' ⟨rfl,vs',ht⟩
  exact⟨rfl,Half.rstep (R:=R) h1 h2 h4 h5 h6 ht⟩
theorem Sm.mono {R:Rk} {n b n' b':Nat} (h:Sm R n b) (hn:n≤n') (hb:b≤b'):Sm R n' b':=⟨Nat.le_trans h.dir hn,Nat.le_trans h.fn hn,fun f hf=>Nat.le_trans (h.file f hf) hb⟩
theorem Sm.cnt {R:Rk} {n b:Nat} (h:Sm R n b):Sm R.cnt n b:=by
 obtain⟨f1,f2,f3,_⟩:=Rd.cnt_files R
 exact⟨by rw[f2,f3];exact h.dir,by rw[f1];exact h.fn,by rw[f1];exact h.file⟩
theorem Sm.chg {R:Rk} {n b:Nat} (h:Sm R n b) (c:Rd.Ch):Sm { R with chs:=R.chs++[c] } (n+1) b:=by
 refine⟨?_,Nat.le_succ_of_le h.fn,h.file⟩
 have:=h.dir
 simp;omega
theorem Sm.setF {R:Rk} {n b:Nat} (h:Sm R n b) (i:Nat) (f:Rd.Fl) (b':Nat) (hb:b≤b') (hf:f.bytes.size≤b'):Sm (R.setF i f) n b':=by
 refine⟨h.dir,by show (R.files.set i f).length≤n;rw[List.length_set];exact h.fn,fun x hx=>?_⟩
 rcases List.mem_or_eq_of_mem_set hx with e | e
 ·exact Nat.le_trans (h.file x e) hb
 ·rw[e];exact hf
theorem Sm.create {R:Rk} {n b:Nat} (h:Sm R n b) (y:ByteArray):Sm (R.create y).2 (n+1) b:=by
 unfold Rk.create
 split
 ·exact h.cnt.mono (by omega) nlr
 ·split
  ·have h1:=h.cnt
   refine⟨?_,?_,fun f hf=>?_⟩
   ·have:=h1.dir;simp only[Rk.addF,List.length_append,List.length_singleton];omega
   ·have:=h1.fn;simp only[Rk.addF,List.length_append,List.length_singleton];omega
   ·rcases List.mem_append.1 hf with e | e
    ·exact h1.file f e
    ·rw[List.mem_singleton.1 e];exact Nat.zero_le _
  ·exact h.cnt.mono (by omega) nlr
theorem Sm.on {R:Rk} {n b:Nat} (h:Sm R n b) (a:ByteArray) (k:Rk→Nat→Int × Rk) (n' b':Nat) (hn:n≤n') (hb:b≤b') (hk:∀ i,Sm (k R.cnt i).2 n' b'):Sm (R.on a k).2 n' b':=by
 unfold Rk.on
 split
 ·exact h.cnt.mono hn hb
 ·split
  ·exact h.cnt.mono hn hb
  ·exact hk _
theorem Sm.append {R:Rk} {n b:Nat} (h:Sm R n b) (a t:ByteArray):Sm (R.append a t).2 n (b+t.size):=by
 refine h.on a _ n _ nlr (by omega) fun i=>?_
 split
 ·exact h.cnt.mono nlr (by omega)
 ·refine h.cnt.setF i _ _ (by omega) ?_
  have:=h.cnt.fl i
  rw[ByteArray.size_append];omega
theorem Sm.sync {R:Rk} {n b:Nat} (h:Sm R n b) (a:ByteArray):Sm (R.sync a).2 n b:=h.on a _ n b nlr nlr fun i=>h.cnt.setF i _ _ nlr (h.cnt.fl i)
theorem Sm.remove {R:Rk} {n b:Nat} (h:Sm R n b) (a:ByteArray):Sm (R.remove a).2 (n+1) b:=h.on a _ (n+1) b (by omega) nlr fun i=>h.cnt.chg _
theorem Sm.rename {R:Rk} {n b:Nat} (h:Sm R n b) (a c:ByteArray):Sm (R.rename a c).2 (n+1) b:=by
 unfold Rk.rename
 split
 ·exact h.cnt.mono (by omega) nlr
 ·refine h.on a _ (n+1) b (by omega) nlr fun i=>?_
  by_cases e:a=c
  ·simp only[if_pos e];exact h.cnt.mono (by omega) nlr
  ·simp only[if_neg e];exact h.cnt.chg _
theorem Sm.syncDir {R:Rk} {n b:Nat} (h:Sm R n b):Sm R.syncDir.2 n b:=by
 unfold Rk.syncDir
 split
 ·exact h.cnt
 ·have h1:=h.cnt
  have h2:=Rd.dir_len R R.chs.length
  have h3:=h.dir
  exact⟨by show R.now.length+0≤n;unfold Rk.now;omega,h1.fn,h1.file⟩
theorem Sm.crash {R:Rk} {n b:Nat} (h:Sm R n b) (hok:R.Ok) (dir:Int) (K:Nat→Int):Sm (R.crash dir K) n b:=by
 have h2:=Rd.dir_len R dir.toNat
 have h3:=h.dir
 refine⟨?_,?_,?_⟩
 ·show (tab (R.dir dir.toNat)).length+0≤n
  rw[Rd.tab_len (hok.dir_keyed _)];omega
 ·show (Rd.crFs K 0 R.files (tab (R.dir dir.toNat))).length≤n
  rw[Rd.crFs_len];exact h.fn
 ·exact Rd.crFs_small K b _ 0 R.files (fun f hf=>⟨h.file f hf,hok.cut f hf⟩)
theorem Is.new (q:Int):Is (d0 q) ⟨[],[],[],q,-1,false⟩ (fun i=>i):=
 ⟨rfl,rfl,rfl,rfl,rfl,fun i j hi=>(by cases hi),fun i hi=>(by cases hi),fun f=>Nat.le_refl _,rfl,Or.inr (Or.inl ⟨rfl,rfl⟩),⟨by show (-1:Int)≤-1;omega,by show (-1:Int)≤_;omega⟩,Rd.rnew_ok q,fun c hc=>(by cases hc)⟩
theorem Sm.new (q:Int):Sm ⟨[],[],[],q,-1,false⟩ 0 0:=⟨Nat.le_refl _,Nat.le_refl _,fun f hf=>(by cases hf)⟩
theorem Pair.ok {w:World} {D E:Nat} {R:Rk} {O:Nat→Prop} (h:Pair w D E R O):R.Ok∧(-1≤R.left∧R.left≤9223372036854775807):=by
 obtain⟨d,blk,vf,vs,vc,h1,h2,h3,h4,h5⟩:=h
 exact⟨h2.ok,h2.left⟩
theorem Pair.new {w w1 w2:World} {q:Int} (hb1:Below w.heap.size w w1) (h1:DAt w1 (w.heap.size+1) (d0 q)) (hb2:Below w1.heap.size w1 w2) (h2:RAt w2 w1.heap.size ⟨[],[],[],q,-1,false⟩ (.slice none 0 0) (.slice none 0 0) (.slice none 0 0)):∃ O,Pair w2 (w.heap.size+1) w1.heap.size ⟨[],[],[],q,-1,false⟩ O∧∀ k,O k→w.heap.size≤k:=by
 have hlt:=blk_lt h1.blk
 refine⟨fun k=>dOwn (w.heap.size+1) (d0 q) k∨rOwn w1.heap.size (.slice none 0 0) (.slice none 0 0) (.slice none 0 0) k,⟨d0 q,fun i=>i,_,_,_,h1.below hb2,Is.new q,h2,fun k hk hr=>?_,fun k=>Iff.rfl⟩,fun k hk=>?_⟩
 ·have:=dOwn_lt h1 hk
  rcases hr with e | e | e | e
  ·omega
  ·simp[Value.ownBlock] at e
  ·simp[Value.ownBlock] at e
  ·simp[Value.ownBlock] at e
 ·rcases hk with hk | hk
  ·rcases hk with e | e | e | e | ⟨f,hf,_⟩
   ·omega
   ·simp[d0,Value.ownBlock] at e
   ·simp[d0,Value.ownBlock] at e
   ·simp[d0,Value.ownBlock] at e
   ·cases hf
  ·rcases hk with e | e | e | e
   ·omega
   ·simp[Value.ownBlock] at e
   ·simp[Value.ownBlock] at e
   ·simp[Value.ownBlock] at e
end Go.Proofs.YteflnddphpjahaaGreatDoor.Pk
namespace Go.Proofs.YteflnddphpjahaaGreatDoor
open Go.RowKit
structure Turns (H:Nat) (es:List Nat) (w w':World):Prop where
 os:w'.os=w.os
 tape:w'.tape=w.tape
 output:w'.output=w.output
 size:w.heap.size≤w'.heap.size
 low:∀ k,k < H→w'.heap[k]? = w.heap[k]?
 block:∀ k,k < w.heap.size→k≠H→(∀ cur e fr,w.heap[k]? = some (.cells cur e fr)→e ∉ es)→w'.heap[k]? = w.heap[k]?
theorem Turns.refl (H:Nat) (es:List Nat) (w:World):Turns H es w w:=⟨rfl,rfl,rfl,Nat.le_refl _,fun _ _=>rfl,fun _ _ _ _=>rfl⟩
theorem Turns.trans {H:Nat} {es:List Nat} {a b c:World} (h:Turns H es a b) (k:Turns H es b c):Turns H es a c:=by
 refine⟨k.os.trans h.os,k.tape.trans h.tape,k.output.trans h.output,Nat.le_trans h.size k.size,fun i hi=>(k.low i hi).trans (h.low i hi),fun i hi hne ht=>?_⟩
 have e1:=h.block i hi hne ht
 exact(k.block i (Nat.lt_of_lt_of_le hi h.size) hne (fun cur e fr hc=>ht cur e fr (by rw[← e1];exact hc))).trans e1
theorem Turns.below {H:Nat} {es:List Nat} {a b:World} (h:Turns H es a b):Below H a b:=⟨h.os,h.tape,h.output,h.size,h.low⟩
theorem Turns.of_below {H:Nat} {es:List Nat} {a b:World} (hH:H≤a.heap.size) (h:Below a.heap.size a b):Turns H es a b :=
 ⟨h.os,h.tape,h.output,h.size,fun k hk=>h.block k (by omega),fun k hk _ _=>h.block k hk⟩
theorem Turns.alloc (H:Nat) (es:List Nat) (w:World) (hH:H≤w.heap.size) (o:Obj):Turns H es w (w.alloc o):=
 Turns.of_below hH ((Below.refl _ _).alloc nlr o)
theorem Turns.drew (H:Nat) (es:List Nat) (w:World):Turns H es w w.drew:=⟨rfl,rfl,rfl,Nat.le_refl _,fun _ _=>rfl,fun _ _ _ _=>rfl⟩
theorem Turns.setRow {H e size n B:Nat} {es:List Nat} {w:World} {v:Value} {xs:List Value} {g:Nat} (ho:w.ownsRow B e size v n xs) (hv:v.ownBlock=some g) (hB:H < B) (he:e ∈ es) (j:Nat) (u:Value):Turns H es w (w.setCell ⟨g,j,none⟩ u):=by
 have hg:=(ho.lt g hv).1
 refine⟨rfl,rfl,rfl,by simp[World.setCell],fun k hk=>Below.heap_setCell _ _ _ _ (by show k≠g;omega),fun k _ hne ht=>Below.heap_setCell _ _ _ _ ?_⟩
 intro (e1:k=g)
 subst e1
 rcases ho.2 with ⟨rfl,_⟩ | ⟨g',cap,cur,rfl,_,hgg,_⟩
 ·cases hv
 ·have:g'=k:=by simpa [Value.ownBlock] using hv
  subst this
  exact ht _ _ _ hgg he
theorem Turns.grown {H e size n B:Nat} {es:List Nat} {w w':World} {v:Value} {xs:List Value} (ho:w.ownsRow B e size v n xs) (hg:w.grownBy w' v.ownBlock) (hB:H < B) (hH:H≤w.heap.size) (he:e ∈ es):Turns H es w w':=by
 refine⟨hg.os,hg.tape,hg.output,hg.size,fun k hk=>?_,fun k hk hne ht=>?_⟩
 ·exact hg.block k (by omega) (fun e1=>by have:=(ho.lt k e1.symm).1;omega)
 ·refine hg.block k hk (fun e1=>?_)
  rcases ho.2 with ⟨rfl,_⟩ | ⟨g',cap,cur,rfl,_,hgg,_⟩
  ·cases e1
  ·have:k=g':=by simpa [Value.ownBlock] using e1
   subst this
   exact ht _ _ _ hgg he
theorem Turns.own {H e size n B:Nat} {es:List Nat} {w w':World} {v:Value} {xs:List Value} (h:Turns H es w w') (ho:w.ownsRow B e size v n xs) (hB:H < B) (he:e ∉ es):w'.ownsRow B e size v n xs:=by
 obtain⟨h1,h2⟩:=ho
 refine⟨h1,?_⟩
 rcases h2 with h2 | ⟨g,cap,cur,hv,hBg,hg,r⟩
 ·exact .inl h2
 ·refine .inr ⟨g,cap,cur,hv,hBg,?_,r⟩
  rw[h.block g (Array.getElem?_eq_some_iff.1 hg).1 (by omega) (fun cur' e' fr hc=>by rw[hg] at hc;injection hc with hc;injection hc with _ hc;subst hc;exact he),hg]
theorem Turns.keeps {H e g:Nat} {es:List Nat} {w w':World} {cur:Array Value} {fr:Nat × Nat} (h:Turns H es w w') (hg:w.heap[g]? = some (.cells cur e fr)) (hne:g≠H) (he:e ∉ es):w'.heap[g]? = some (.cells cur e fr):=by
 rw[h.block g (Array.getElem?_eq_some_iff.1 hg).1 hne (fun cur' e' fr' hc=>by rw[hg] at hc;injection hc with hc;injection hc with _ hc;subst hc;exact he),hg]
theorem Tryz.info_hv:(Tryz.prog.info? 58).map (fun i=>(i.zero,i.size,i.bytes))=some (some (.agg #[.slice none 0 0,.int .i64 0]),2,32):=by kernel_rfl
theorem Tryz.info_hn:(Tryz.prog.info? 61).map (fun i=>(i.zero,i.size,i.bytes))=some (some (.agg #[.slice none 0 0,.int .i64 0]),2,32):=by kernel_rfl
theorem Tryz.info_he:(Tryz.prog.info? 65).map (fun i=>(i.zero,i.size,i.bytes))=some (some (.agg #[.slice none 0 0,.int .i64 0]),2,32):=by kernel_rfl
def hCells (l:List (Value × Int)):List Value:=l.flatMap fun p=>[p.1,.int .i64 p.2]
theorem hCells_snoc (l:List (Value × Int)) (v:Value) (m:Int):hCells (l++[(v,m)])=hCells l++[v,.int .i64 m]:=by simp[hCells]
end Go.Proofs.YteflnddphpjahaaGreatDoor
namespace Go.Proofs.YteflnddphpjahaaGreatDoor.Dl
open Go.RowKit
open Rd (strs drN)
def mtR (s:ByteArray) (n:Nat):ByteArray:=if n=0 then s else mtR (s++strOfNums [48+(n:Int) % 10]) (n / 10)
def mt (n:Nat):ByteArray:=mtR ⟨#[35]⟩ n
theorem mtR_zero (s:ByteArray):mtR s 0=s:=by rw[mtR,if_pos rfl]
theorem mtR_pos (s:ByteArray) {n:Nat} (h:0 < n):mtR s n=mtR (s++strOfNums [48+(n:Int) % 10]) (n / 10):=by rw[mtR,if_neg (by omega)]
theorem cv1 (w:World) (g cap:Nat) (x:Int) (h:w.cell? ⟨g,0,none⟩=some (.int .u8 x)):(convert 75 9 (.slice (some ⟨g,0,none⟩) 1 cap)).run Tryz.prog w = .ok (.string (strOfNums [x])) w :=
 run_convert_bytes_arg (P:=Tryz.prog) w 75 5 Tryz.underlying75 Tryz.underlying5 g 0 1 cap [x] rfl (fun i hi=>by
  have:i=0:=by omega
  subst this
  exact h) 9 Tryz.underlying9
theorem markText_any (n:Nat) (w:World) (hn:n≤4398046511104):Calls Tryz.prog 19 #[.int .i64 n] w fun e w'=>e = .returned (.string (mt n))∧Below w.heap.size w w':=by
 have h1:=cv1
 have hz:=strOfNums_size
 go_enter Tryz.func19,Tryz.ntmps19
 go_wp2
 go_loopw [0,3] (fun u v wr=>∃ (k:Nat) (t:ByteArray),u = .int .i64 k∧v = .string t∧Below w.heap.size w wr∧Hid (mtR t k=mt n)∧t.size+k≤1+n) (fun u _ _=>(intOf u).toNat)
 case atStart=>exact⟨n,⟨#[35]⟩,rfl,rfl,Below.refl _ _,rfl,by show 1+n≤1+n;omega⟩
 case round =>
  obtain⟨k,t,rfl,rfl,hb,HK,hk⟩:=hrel
  by_cases c1:0 < k
  ·have c1z:(k:Int) > 0:=by omega
   have hsz:¬ 9223372036854775807 < t.size+1:=by omega
   go_wp2
   go_roundw
   case rel =>
    refine⟨k / 10,_,by go_num,rfl,hb.trans ((Below.refl _ _).alloc hb.size _),?_,?_⟩
    ·show mtR _ _=_
     rw[← mtR_pos t c1];exact uh HK
    ·have e:(strOfNums [48+(k:Int) % 10]).size=1:=hz _
     rw[ByteArray.size_append,e]
     omega
   case measure=>simp[intOf];omega
  ·have c1z:¬ (k:Int) > 0:=by omega
   obtain rfl:k=0:=by omega
   go_wp2
   go_ret
   have e:=uh HK
   rw[mtR_zero] at e
   exact⟨by rw[← e];rfl,hb⟩
theorem txs_of_own {w:World} {B:Nat} {v:Value} {L:List ByteArray} (h:w.ownsRow B 9 1 v L.length (strs L)):∃ p cap,v = .slice p L.length cap∧∀ k (h:k < L.length),∃ g,p=some ⟨g,0,none⟩∧g < w.heap.size∧w.cell? ⟨g,k,none⟩=some (.string L[k]):=by
 obtain⟨p,cap,hv,hc⟩:=osl h
 refine⟨p,cap,hv,fun k hk=>?_⟩
 obtain⟨g,hp,_,hg,c0⟩:=hc k (by omega)
 exact⟨g,hp,hg,c0.trans (by unfold strs;rw[List.getElem?_map,List.getElem?_eq_getElem hk];rfl)⟩
theorem sameTexts_any (B B':Nat) (v u:Value) (L:List ByteArray) (w:World) (h:w.ownsRow B 9 1 v L.length (strs L)) (h':w.ownsRow B' 9 1 u L.length (strs L)) (hl:L.length≤100000000) :
  Calls Tryz.prog 97 #[v,u] w fun e w'=>e = .returned (.bool true)∧Below w.heap.size w w':=by
 have HO:=hde h
 have HO':=hde h'
 obtain⟨p,cap,rfl,_⟩:=txs_of_own h
 obtain⟨p',cap',rfl,_⟩:=txs_of_own h'
 clear h h'
 go_enter Tryz.func97,Tryz.ntmps97
 go_wp2
 go_loopw [5] (fun i wr=>∃ k:Nat,k≤L.length∧i = .int .i64 k∧Below w.heap.size w wr) (fun i _=>L.length - (intOf i).toNat)
 case atStart=>exact⟨0,Nat.zero_le _,rfl,Below.refl _ _⟩
 case round =>
  obtain⟨k,hk,rfl,hb⟩:=hrel
  by_cases hlt:k < L.length
  ·obtain⟨_,_,e1,q1⟩:=txs_of_own (obl (uh HO) hb)
   obtain⟨_,_,e2,q2⟩:=txs_of_own (obl (uh HO') hb)
   injection e1 with a1 a2 a3
   injection e2 with b1 b2 b3
   subst a1 b1 a3 b3
   obtain⟨g,hp,hg,c0⟩:=q1 k hlt
   obtain⟨g',hp',hg',c0'⟩:=q2 k hlt
   subst hp hp'
   obtain⟨x,hx⟩:∃ x,L[k]=x:=⟨_,rfl⟩
   rw[hx] at c0 c0'
   have g1:(x.toList == x.toList)=true:=Rd.str_is rfl
   have hkz:(k:Int) < (L.length:Int):=by omega
   clear q1 q2 hx
   go_wp2_with fail
   go_quiet (fail)
   go_wp2
   go_roundw
   case rel=>exact⟨k+1,by omega,by go_num,drN hb _⟩
   case measure=>simp[intOf];omega
  ·obtain rfl:k=L.length:=by omega
   go_wp2
   go_ret
   exact⟨rfl,hb⟩
end Go.Proofs.YteflnddphpjahaaGreatDoor.Dl
