import Derived.Test.YteflnddphpjahaaGreatDoorClSrtBtoCqA
import Derived.Laws.EntriesVeiled
import Derived.Deep.RegionHeld3
import Derived.WalkSmall
import Derived.Deep.RegionLaw
set_option linter.unusedVariables false
set_option linter.unusedSimpArgs false
set_option maxRecDepth 100000
set_option maxHeartbeats 16000000
namespace Go.Proofs.YteflnddphpjahaaGreatDoor
open Go.RowKit
theorem blk3 {w:World} {G t:Nat} {c0 c1 c2:Value} (h:w.heap[G]? = some (.cells #[c0,c1,c2] t)) :
  w.cell? ⟨G,0,none⟩=some c0∧w.cell? ⟨G,1,none⟩=some c1∧w.cell? ⟨G,2,none⟩=some c2∧∀ j,w.frozen? ⟨G,j,none⟩=false :=
 ⟨by simp[World.cell?,h],by simp[World.cell?,h],by simp[World.cell?,h],fun j=>by simp[World.frozen?,h]⟩
def NumAt (w:World) (B:Nat) (n:Int):Prop:=w.heap[B]? = some (.cells #[.int .i64 n] 2)
theorem NumAt.cell {w:World} {B:Nat} {n:Int} (h:NumAt w B n):w.cell? ⟨B,0,none⟩=some (.int .i64 n):=by
 unfold NumAt at h;simp[World.cell?,h]
def numWord (B:Nat):Value := .agg #[.string ⟨#[]⟩,.bool false,.func (.func 300) #[] #[.pointer (some ⟨B,0,none⟩)]]
theorem findWord_num (s:ByteArray) (k:Value) (w:World) (hs:s.size≤4000) (n:Int) (hn:Hid (Sp.number s.data.toList=some n)):Calls Tryz.prog 253 #[.string s,k] w fun e w'=>∃ B,w.heap.size≤B∧NumAt w' B n∧e = .returned (.tuple #[numWord B,.bool true])∧Below w.heap.size w w':=by
 go_enter Tryz.func253,Tryz.ntmps253
 go_wp2_with fail
 refine(numRead_any s _ hs).mono ?_
 rintro e w1 ⟨rfl,hb1⟩
 rw[uh hn]
 unfold numOut
 have hz:=hb1.size
 simp at hz
 have h0:w1.heap[w.heap.size]? = some (.cells #[.string ⟨#[]⟩,.bool false,.nilFunc] 322):=(hb1.block w.heap.size (by simp)).trans Array.getElem?_push_size
 have hb2:Below w.heap.size w (w1.alloc (.cells #[.int .i64 n] 2)):=(((Below.refl w.heap.size w).alloc nlr _).trans (hb1.mono (by simp))).alloc (by omega) _
 have h1:(w1.alloc (.cells #[.int .i64 n] 2)).heap[w.heap.size]? = _:=(((Below.refl w1.heap.size w1).alloc nlr (.cells #[.int .i64 n] 2)).block _ hz).trans h0
 obtain⟨c0,c1,c2,cf⟩:=blk3 h1
 have f0:=cf 0
 have f1:=cf 1
 have f2:=cf 2
 have cn:NumAt (w1.alloc (.cells #[.int .i64 n] 2)) w1.heap.size n:=heap_alloc_new w1 _
 clear h0 h1 cf
 have hlt:w.heap.size≠w1.heap.size:=by omega
 have hc:∀ (W:World) (j:Nat) (v:Value),NumAt W w1.heap.size n→NumAt (W.setCell ⟨w.heap.size,j,none⟩ v) w1.heap.size n:=fun W j v h =>
  (Below.heap_setCell _ _ _ _ (fun e=>hlt e.symm)).trans h
 have CN:=hde cn
 clear cn
 go_wp2
 refine bodyPost_ret (v := .tuple #[numWord w1.heap.size,.bool true]) ?_ rfl ⟨w1.heap.size,by omega,hc _ _ _ (hc _ _ _ (hc _ _ _ (uh CN))),rfl,((hb2.setCell nlr _).setCell nlr _).setCell nlr _⟩
 simp[results,Tryz.results253,go_sem,numWord,c0,c1,c2]
def wordV (k:Nat):Value := .agg #[.string (wordNm k),.bool (wordWt k),wordFn k]
def noWord:Value := .agg #[.string ⟨#[]⟩,.bool false,.nilFunc]
def FindW (x:List UInt8) (w:World) (e:Ending) (w':World):Prop :=
 Below w.heap.size w w'∧((∃ k,k < 25∧Sp.nms[k]! = x∧e = .returned (.tuple #[wordV k,.bool true]))∨((∀ k,k < 25→Sp.nms[k]!≠x)∧e = .returned (.tuple #[noWord,.bool false])))
theorem findWord_else (s:ByteArray) (b:Nat) (w:World) (hs:s.size≤4000) (hW:WordsAt b w) (hn:Hid (Sp.number s.data.toList=none)):Calls Tryz.prog 253 #[.string s,.slice (some ⟨b,0,none⟩) 25 25] w (FindW s.data.toList w):=by
 go_enter Tryz.func253,Tryz.ntmps253
 go_wp2_with fail
 refine(numRead_any s _ hs).mono ?_
 rintro e w1 ⟨rfl,hb1⟩
 rw[uh hn]
 unfold numOut
 have hz:=hb1.size
 simp at hz
 have h0:w1.heap[w.heap.size]? = some (.cells #[.string ⟨#[]⟩,.bool false,.nilFunc] 322):=(hb1.block w.heap.size (by simp)).trans Array.getElem?_push_size
 have hb2:Below w.heap.size w (w1.alloc (.cells #[.int .i64 0] 2)):=(((Below.refl w.heap.size w).alloc nlr _).trans (hb1.mono (by simp))).alloc (by omega) _
 have h1:(w1.alloc (.cells #[.int .i64 0] 2)).heap[w.heap.size]? = _:=(((Below.refl w1.heap.size w1).alloc nlr (.cells #[.int .i64 0] 2)).block _ hz).trans h0
 have hz1:w.heap.size < (w1.alloc (.cells #[.int .i64 0] 2)).heap.size:=by simp;omega
 go_wp2_with fail
 generalize (w1.alloc (.cells #[.int .i64 0] 2))=W1 at *
 clear hb1 h0
 go_loopw [20] (fun i wr=>∃ k:Nat,k≤25∧i = .int .i64 k∧Below W1.heap.size W1 wr∧Hid (∀ j,j < k→Sp.nms[j]!≠s.data.toList)) (fun i _=>25 - (intOf i).toNat)
 case atStart=>exact⟨0,by omega,rfl,Below.refl _ _,fun j hj=>absurd hj (by omega)⟩
 case round =>
  obtain⟨k,hk,rfl,hb,HK⟩:=hrel
  have hbw:=hb2.trans (hb.mono (by omega))
  have h2:=(hb.block _ hz1).trans h1
  by_cases hlt:k < 25
  ·obtain⟨x0,x1,x2⟩:=words_cells (hW.below hbw) hlt
   rw[Nat.mul_comm 3 k] at x0 x1 x2
   have hk0:(0:Int)≤(k:Int):=Int.natCast_nonneg _
   have hk1:(k:Int) < (25:Int):=by omega
   obtain⟨nm,HN⟩:∃ nm,Hid (nm=wordNm k):=⟨_,rfl⟩
   obtain⟨wt,HT⟩:∃ wt,Hid (wt=wordWt k):=⟨_,rfl⟩
   obtain⟨fk,HF⟩:∃ fk,Hid (Value.func (.func fk) #[] #[]=wordFn k):=⟨_,rfl⟩
   rw[← uh HN] at x0
   rw[← uh HT] at x1
   rw[← uh HF] at x2
   have hzr:w.heap.size < wr.heap.size:=Nat.lt_of_lt_of_le hz1 hb.size
   have h3:(wr.alloc (.cells #[.string nm,.bool wt,.func (.func fk) #[] #[]] 322)).heap[w.heap.size]? = _:=(((Below.refl wr.heap.size wr).alloc nlr (.cells #[.string nm,.bool wt,.func (.func fk) #[] #[]] 322)).block _ hzr).trans h2
   have hb3:=hbw.alloc (Nat.le_of_lt hzr) (.cells #[.string nm,.bool wt,.func (.func fk) #[] #[]] 322)
   obtain⟨c0,c1,c2,cf⟩:=blk3 h3
   have f0:=cf 0
   have f1:=cf 1
   have f2:=cf 2
   clear cf h2 h1 h3
   by_cases hq:Sp.nms[k]! = s.data.toList
   ·have HQ:=hde hq
    have g:(nm.toList == s.toList)=true:=by
     rw[uh HN,toL s];exact toList_is hq
    clear hq
    clear hzr
    go_wp2
    refine bodyPost_ret (v := .tuple #[wordV k,.bool true]) ?_ rfl ⟨((hb3.setCell nlr _).setCell nlr _).setCell nlr _,Or.inl ⟨k,hlt,uh HQ,rfl⟩⟩
    simp[results,Tryz.results253,go_sem,wordV,c0,c1,c2,← uh HN,← uh HT,← uh HF]
   ·have HQ:=hde hq
    have g:(nm.toList == s.toList)=false:=by
     rw[uh HN,toL s];exact toList_ne hq
    clear hq
    go_wp2
    go_roundw
    case rel=>exact⟨k+1,by omega,by go_num,hb.alloc hb.size _,fun j hj=>if h:j=k then h ▸ uh HQ else uh HK j (by omega)⟩
    case measure=>simp[intOf];omega
  ·obtain rfl:k=25:=by omega
   obtain⟨c0,c1,c2,cf⟩:=blk3 h2
   have f0:=cf 0
   have f1:=cf 1
   have f2:=cf 2
   clear cf h2 h1
   go_wp2
   refine bodyPost_ret (v := .tuple #[noWord,.bool false]) ?_ rfl ⟨((hbw.setCell nlr _).setCell nlr _).setCell nlr _,Or.inr ⟨uh HK,rfl⟩⟩
   simp[results,Tryz.results253,go_sem,noWord,c0,c1,c2]
structure Dry (w:World) (M:Nat) (code:Value) (at' fuel h:Nat) (loops:Value):Prop where
 c0:w.cell? ⟨M,0,none⟩=some code
 c1:w.cell? ⟨M,1,none⟩=some (.int .i64 at')
 c2:w.cell? ⟨M,2,none⟩=some (.int .i64 fuel)
 sg:∀ j,j < 9→∃ n:Int,w.cell? ⟨M,3+j,none⟩=some (.int .i64 n)
 st:∀ j,j < 16→∃ n:Int,w.cell? ⟨M,12+j,none⟩=some (.int .i64 n)
 hh:w.cell? ⟨M,28,none⟩=some (.int .i64 h)
 ll:w.cell? ⟨M,29,none⟩=some loops
 dr:w.cell? ⟨M,30,none⟩=some (.bool true)
 fz:∀ j,w.frozen? ⟨M,j,none⟩=false
structure Only (M:Nat) (w w':World):Prop where
 size:w'.heap.size=w.heap.size
 block:∀ b,b≠M→w'.heap[b]? = w.heap[b]?
 os:w'.os=w.os
 tape:w'.tape=w.tape
 output:w'.output=w.output
theorem Only.refl (M:Nat) (w:World):Only M w w:=⟨rfl,fun _ _=>rfl,rfl,rfl,rfl⟩
theorem Only.trans {M:Nat} {w w' w'':World} (h:Only M w w') (h':Only M w' w''):Only M w w'':=⟨h'.1.trans h.1,fun b hb=>(h'.2 b hb).trans (h.2 b hb),h'.os.trans h.os,h'.tape.trans h.tape,h'.output.trans h.output⟩
theorem Only.drew {M:Nat} {w w':World} (h:Only M w w'):Only M w w'.drew:=⟨h.1,h.2,h.os,h.tape,h.output⟩
theorem Only.below {M:Nat} {w w':World} (h:Only M w w'):Below M w w':=⟨h.os,h.tape,h.output,Nat.le_of_eq h.size.symm,fun b hb=>h.block b (by omega)⟩
theorem Only.set {M:Nat} {w w':World} (h:Only M w w') (j:Nat) (v:Value):Only M w (w'.setCell ⟨M,j,none⟩ v):=by
 refine⟨by rw[← h.1];simp,fun b hb=>?_,h.os,h.tape,h.output⟩
 rw[← h.2 b hb]
 exact Below.heap_setCell _ _ _ _ hb
theorem cso {W:World} {M i j:Nat} {v:Value} (h:i≠j):(W.setCell ⟨M,i,none⟩ v).cell? ⟨M,j,none⟩=W.cell? ⟨M,j,none⟩:=
 World.cell?_setCell_other W ⟨M,i,none⟩ ⟨M,j,none⟩ v (by intro e;injection e with _ e1;exact h e1)
theorem Dry.drew {w:World} {M at' fuel h:Nat} {code loops:Value} (hd:Dry w M code at' fuel h loops):Dry w.drew M code at' fuel h loops:=⟨hd.c0,hd.c1,hd.c2,hd.sg,hd.st,hd.hh,hd.ll,hd.dr,hd.fz⟩
theorem Dry.val {w:World} {M at' fuel h:Nat} {code loops:Value} (hd:Dry w M code at' fuel h loops) (i:Nat) (hi:i < 16) (v:Int):Dry (w.setCell ⟨M,12+i,none⟩ (.int .i64 v)) M code at' fuel h loops:=by
 obtain⟨c0,c1,c2,sg,st,hh,ll,dr,fz⟩:=hd
 refine⟨?_,?_,?_,fun j hj=>?_,fun j hj=>?_,?_,?_,?_,fun j=>?_⟩
 ·rw[cso (by omega)];exact c0
 ·rw[cso (by omega)];exact c1
 ·rw[cso (by omega)];exact c2
 ·rw[cso (by omega)];exact sg j hj
 ·by_cases e:i=j
  ·subst e
   obtain⟨n,hn⟩:=st i hi
   exact⟨v,World.cell?_setCell_same _ _ _ hn⟩
  ·rw[cso (by omega)];exact st j hj
 ·rw[cso (by omega)];exact hh
 ·rw[cso (by omega)];exact ll
 ·rw[cso (by omega)];exact dr
 ·rw[World.frozen?_setCell];exact fz j
theorem Dry.hgt {w:World} {M at' fuel h:Nat} {code loops:Value} (hd:Dry w M code at' fuel h loops) (h':Nat):Dry (w.setCell ⟨M,28,none⟩ (.int .i64 h')) M code at' fuel h' loops:=by
 obtain⟨c0,c1,c2,sg,st,hh,ll,dr,fz⟩:=hd
 refine⟨?_,?_,?_,fun j hj=>?_,fun j hj=>?_,?_,?_,?_,fun j=>?_⟩
 ·rw[cso (by omega)];exact c0
 ·rw[cso (by omega)];exact c1
 ·rw[cso (by omega)];exact c2
 ·rw[cso (by omega)];exact sg j hj
 ·rw[cso (by omega)];exact st j hj
 ·exact World.cell?_setCell_same _ _ _ hh
 ·rw[cso (by omega)];exact ll
 ·rw[cso (by omega)];exact dr
 ·rw[World.frozen?_setCell];exact fz j
theorem put_ok (v:Int) (M at' fuel h:Nat) (code loops:Value) (w:World) (hd:Dry w M code at' fuel h loops) (hh:h < 16):Calls Tryz.prog 173 #[.pointer (some ⟨M,0,none⟩),.int .i64 v] w fun e w'=>e = .returned (.tuple #[])∧Dry w' M code at' fuel (h+1) loops∧Only M w w':=by
 have e1:=hd.hh
 obtain⟨x,e2⟩:=hd.st h hh
 have e3:=hd.fz (12+h)
 have e4:=hd.fz 28
 have g1:(((h:Nat):Int) == 16)=false:=beq_eq_false_iff_ne.2 (by omega)
 have g2:(0:Int)≤(h:Int):=Int.natCast_nonneg _
 have g3:(h:Int) < (16:Int):=by omega
 go_enter Tryz.func173,Tryz.ntmps173
 go_wp2
 go_region
 go_wp2
 exact bodyPost_end (results_none rfl _ _ _) rfl ⟨rfl,((hd.val h hh v).hgt (h+1)).drew,(((Only.refl M w).set _ _).set _ _).drew⟩
theorem put_full (v:Int) (M at' fuel h:Nat) (code loops:Value) (w:World) (hd:Dry w M code at' fuel h loops) (hh:h=16) (u:TypeId) (p:Value) (he:w.cell? ⟨5,0,none⟩=some (.iface u p)):Calls Tryz.prog 173 #[.pointer (some ⟨M,0,none⟩),.int .i64 v] w fun e w'=>e = .panicked [{ v := .iface u p,recovered:=false }]∧w'=w:=by
 have e1:=hd.hh
 subst hh
 go_enter Tryz.func173,Tryz.ntmps173
 go_wp2
 exact⟨rfl,rfl,rfl⟩
theorem take_ok (M at' fuel h:Nat) (code loops:Value) (w:World) (hd:Dry w M code at' fuel (h+1) loops) (hh:h < 16):Calls Tryz.prog 195 #[.pointer (some ⟨M,0,none⟩)] w fun e w'=>e = .returned (.int .i64 1)∧Dry w' M code at' fuel h loops∧Only M w w':=by
 have e1:=hd.hh
 have e4:=hd.fz 28
 have e5:=hd.dr
 have g1:((((h+1:Nat)):Int) == 0)=false:=beq_eq_false_iff_ne.2 (by omega)
 have g2:((h+1:Nat):Int) - 1=(h:Int):=by omega
 go_enter Tryz.func195,Tryz.ntmps195
 go_wp2
 exact bodyPost_ret (v := .int .i64 1) (by simp[results,Tryz.results195,go_sem]) rfl ⟨rfl,hd.hgt h,(Only.refl M w).set _ _⟩
theorem take_none (M at' fuel:Nat) (code loops:Value) (w:World) (hd:Dry w M code at' fuel 0 loops) (u:TypeId) (p:Value) (he:w.cell? ⟨5,0,none⟩=some (.iface u p)):Calls Tryz.prog 195 #[.pointer (some ⟨M,0,none⟩)] w fun e w'=>e = .panicked [{ v := .iface u p,recovered:=false }]∧w'=w:=by
 have e1:=hd.hh
 go_enter Tryz.func195,Tryz.ntmps195
 go_wp2
 exact⟨rfl,rfl,rfl⟩
theorem Only.cell {M:Nat} {w w':World} (h:Only M w w') {b j:Nat} (hb:b≠M):w'.cell? ⟨b,j,none⟩=w.cell? ⟨b,j,none⟩:=by
 simp only[World.cell?,h.2 b hb]
theorem takeTwo_ok (M at' fuel h:Nat) (code loops:Value) (w:World) (hd:Dry w M code at' fuel (h+2) loops) (hh:h+1 < 16):Calls Tryz.prog 183 #[.pointer (some ⟨M,0,none⟩)] w fun e w'=>e = .returned (.tuple #[.int .i64 1,.int .i64 1])∧Dry w' M code at' fuel h loops∧Only M w w':=by
 go_enter Tryz.func183,Tryz.ntmps183
 go_wp2_with fail
 refine(take_ok M at' fuel (h+1) code loops w hd hh).mono ?_
 rintro e w1 ⟨rfl,hd1,ho1⟩
 go_wp2_with fail
 refine(take_ok M at' fuel h code loops w1 hd1 (by omega)).mono ?_
 rintro e w2 ⟨rfl,hd2,ho2⟩
 go_wp2
 exact bodyPost_ret (v := .tuple #[.int .i64 1,.int .i64 1]) (by simp[results,Tryz.results183,go_sem]) rfl ⟨rfl,hd2,ho1.trans ho2⟩
theorem takeTwo_less (M at' fuel h:Nat) (code loops:Value) (w:World) (hd:Dry w M code at' fuel h loops) (hh:h < 2) (u:TypeId) (p:Value) (hM:5≠M) (he:w.cell? ⟨5,0,none⟩=some (.iface u p)):Calls Tryz.prog 183 #[.pointer (some ⟨M,0,none⟩)] w fun e w'=>e = .panicked [{ v := .iface u p,recovered:=false }]∧Only M w w':=by
 match h,hh with
 | 0,_ =>
  go_enter Tryz.func183,Tryz.ntmps183
  go_wp2_with fail
  refine(take_none M at' fuel code loops w hd u p he).mono ?_
  rintro e w1 ⟨rfl,rfl⟩
  go_wp2
  exact⟨rfl,rfl,Only.refl _ _⟩
 | 1,_ =>
  go_enter Tryz.func183,Tryz.ntmps183
  go_wp2_with fail
  refine(take_ok M at' fuel 0 code loops w hd (by omega)).mono ?_
  rintro e w1 ⟨rfl,hd1,ho1⟩
  go_wp2_with fail
  refine(take_none M at' fuel code loops w1 hd1 u p ((ho1.cell hM).trans he)).mono ?_
  rintro e w2 ⟨rfl,rfl⟩
  go_wp2
  exact⟨rfl,rfl,ho1⟩
def DoPost (n m:Nat) (M at' fuel h:Nat) (code loops:Value) (u:TypeId) (p:Value) (w:World) (e:Ending) (w':World):Prop :=
 Only M w w'∧((n≤h∧h - n+m≤16∧e = .returned (.tuple #[])∧Dry w' M code at' fuel (h - n+m) loops)∨(¬ (n≤h∧h - n+m≤16)∧e = .panicked [{ v := .iface u p,recovered:=false }]))
structure DryEnv (M h:Nat) (u:TypeId) (p:Value) (w:World):Prop where
 hM:5≠M
 he:w.cell? ⟨5,0,none⟩=some (.iface u p)
 hh:h≤16
def Does (F:Nat) (n m:Nat):Prop := ∀ (M at' fuel h:Nat) (code loops:Value) (u:TypeId) (p:Value) (w:World),Dry w M code at' fuel h loops→DryEnv M h u p w→Calls Tryz.prog F #[.pointer (some ⟨M,0,none⟩)] w (DoPost n m M at' fuel h code loops u p w)
theorem do_1:Does 172 0 1:=by
 intro M at' fuel h code loops u p w hd hv
 obtain⟨n,hn⟩:=hd.sg 0 (by omega)
 by_cases hh:h < 16
 ·go_enter Tryz.func172,Tryz.ntmps172
  go_wp2_with fail
  refine(put_ok n M at' fuel h code loops w hd hh).mono ?_
  rintro e w1 ⟨rfl,hd1,ho1⟩
  go_wp2
  exact bodyPost_end (results_none rfl _ _ _) rfl ⟨ho1,Or.inl ⟨Nat.zero_le _,by omega,rfl,hd1⟩⟩
 ·go_enter Tryz.func172,Tryz.ntmps172
  go_wp2_with fail
  refine(put_full n M at' fuel h code loops w hd (by have:=hv.hh;omega) u p hv.he).mono ?_
  rintro e w1 ⟨rfl,rfl⟩
  go_wp2
  exact⟨rfl,Only.refl _ _,Or.inr ⟨by omega,rfl⟩⟩
theorem do_2:Does 174 0 1:=by
 intro M at' fuel h code loops u p w hd hv
 obtain⟨n,hn⟩:=hd.sg 7 (by omega)
 by_cases hh:h < 16
 ·go_enter Tryz.func174,Tryz.ntmps174
  go_wp2_with fail
  refine(put_ok n M at' fuel h code loops w hd hh).mono ?_
  rintro e w1 ⟨rfl,hd1,ho1⟩
  go_wp2
  exact bodyPost_end (results_none rfl _ _ _) rfl ⟨ho1,Or.inl ⟨Nat.zero_le _,by omega,rfl,hd1⟩⟩
 ·go_enter Tryz.func174,Tryz.ntmps174
  go_wp2_with fail
  refine(put_full n M at' fuel h code loops w hd (by have:=hv.hh;omega) u p hv.he).mono ?_
  rintro e w1 ⟨rfl,rfl⟩
  go_wp2
  exact⟨rfl,Only.refl _ _,Or.inr ⟨by omega,rfl⟩⟩
theorem do_3:Does 175 0 1:=by
 intro M at' fuel h code loops u p w hd hv
 obtain⟨n,hn⟩:=hd.sg 1 (by omega)
 by_cases hh:h < 16
 ·go_enter Tryz.func175,Tryz.ntmps175
  go_wp2_with fail
  refine(put_ok n M at' fuel h code loops w hd hh).mono ?_
  rintro e w1 ⟨rfl,hd1,ho1⟩
  go_wp2
  exact bodyPost_end (results_none rfl _ _ _) rfl ⟨ho1,Or.inl ⟨Nat.zero_le _,by omega,rfl,hd1⟩⟩
 ·go_enter Tryz.func175,Tryz.ntmps175
  go_wp2_with fail
  refine(put_full n M at' fuel h code loops w hd (by have:=hv.hh;omega) u p hv.he).mono ?_
  rintro e w1 ⟨rfl,rfl⟩
  go_wp2
  exact⟨rfl,Only.refl _ _,Or.inr ⟨by omega,rfl⟩⟩
theorem do_4:Does 176 0 1:=by
 intro M at' fuel h code loops u p w hd hv
 obtain⟨n,hn⟩:=hd.sg 2 (by omega)
 by_cases hh:h < 16
 ·go_enter Tryz.func176,Tryz.ntmps176
  go_wp2_with fail
  refine(put_ok n M at' fuel h code loops w hd hh).mono ?_
  rintro e w1 ⟨rfl,hd1,ho1⟩
  go_wp2
  exact bodyPost_end (results_none rfl _ _ _) rfl ⟨ho1,Or.inl ⟨Nat.zero_le _,by omega,rfl,hd1⟩⟩
 ·go_enter Tryz.func176,Tryz.ntmps176
  go_wp2_with fail
  refine(put_full n M at' fuel h code loops w hd (by have:=hv.hh;omega) u p hv.he).mono ?_
  rintro e w1 ⟨rfl,rfl⟩
  go_wp2
  exact⟨rfl,Only.refl _ _,Or.inr ⟨by omega,rfl⟩⟩
theorem do_5:Does 177 0 1:=by
 intro M at' fuel h code loops u p w hd hv
 obtain⟨n,hn⟩:=hd.sg 3 (by omega)
 by_cases hh:h < 16
 ·go_enter Tryz.func177,Tryz.ntmps177
  go_wp2_with fail
  refine(put_ok n M at' fuel h code loops w hd hh).mono ?_
  rintro e w1 ⟨rfl,hd1,ho1⟩
  go_wp2
  exact bodyPost_end (results_none rfl _ _ _) rfl ⟨ho1,Or.inl ⟨Nat.zero_le _,by omega,rfl,hd1⟩⟩
 ·go_enter Tryz.func177,Tryz.ntmps177
  go_wp2_with fail
  refine(put_full n M at' fuel h code loops w hd (by have:=hv.hh;omega) u p hv.he).mono ?_
  rintro e w1 ⟨rfl,rfl⟩
  go_wp2
  exact⟨rfl,Only.refl _ _,Or.inr ⟨by omega,rfl⟩⟩
theorem do_6:Does 178 0 1:=by
 intro M at' fuel h code loops u p w hd hv
 obtain⟨n,hn⟩:=hd.sg 4 (by omega)
 by_cases hh:h < 16
 ·go_enter Tryz.func178,Tryz.ntmps178
  go_wp2_with fail
  refine(put_ok n M at' fuel h code loops w hd hh).mono ?_
  rintro e w1 ⟨rfl,hd1,ho1⟩
  go_wp2
  exact bodyPost_end (results_none rfl _ _ _) rfl ⟨ho1,Or.inl ⟨Nat.zero_le _,by omega,rfl,hd1⟩⟩
 ·go_enter Tryz.func178,Tryz.ntmps178
  go_wp2_with fail
  refine(put_full n M at' fuel h code loops w hd (by have:=hv.hh;omega) u p hv.he).mono ?_
  rintro e w1 ⟨rfl,rfl⟩
  go_wp2
  exact⟨rfl,Only.refl _ _,Or.inr ⟨by omega,rfl⟩⟩
theorem do_7:Does 179 0 1:=by
 intro M at' fuel h code loops u p w hd hv
 obtain⟨n,hn⟩:=hd.sg 5 (by omega)
 by_cases hh:h < 16
 ·go_enter Tryz.func179,Tryz.ntmps179
  go_wp2_with fail
  refine(put_ok n M at' fuel h code loops w hd hh).mono ?_
  rintro e w1 ⟨rfl,hd1,ho1⟩
  go_wp2
  exact bodyPost_end (results_none rfl _ _ _) rfl ⟨ho1,Or.inl ⟨Nat.zero_le _,by omega,rfl,hd1⟩⟩
 ·go_enter Tryz.func179,Tryz.ntmps179
  go_wp2_with fail
  refine(put_full n M at' fuel h code loops w hd (by have:=hv.hh;omega) u p hv.he).mono ?_
  rintro e w1 ⟨rfl,rfl⟩
  go_wp2
  exact⟨rfl,Only.refl _ _,Or.inr ⟨by omega,rfl⟩⟩
theorem do_8:Does 180 0 1:=by
 intro M at' fuel h code loops u p w hd hv
 obtain⟨n,hn⟩:=hd.sg 6 (by omega)
 by_cases hh:h < 16
 ·go_enter Tryz.func180,Tryz.ntmps180
  go_wp2_with fail
  refine(put_ok n M at' fuel h code loops w hd hh).mono ?_
  rintro e w1 ⟨rfl,hd1,ho1⟩
  go_wp2
  exact bodyPost_end (results_none rfl _ _ _) rfl ⟨ho1,Or.inl ⟨Nat.zero_le _,by omega,rfl,hd1⟩⟩
 ·go_enter Tryz.func180,Tryz.ntmps180
  go_wp2_with fail
  refine(put_full n M at' fuel h code loops w hd (by have:=hv.hh;omega) u p hv.he).mono ?_
  rintro e w1 ⟨rfl,rfl⟩
  go_wp2
  exact⟨rfl,Only.refl _ _,Or.inr ⟨by omega,rfl⟩⟩
theorem do_9:Does 181 0 1:=by
 intro M at' fuel h code loops u p w hd hv
 obtain⟨n,hn⟩:=hd.sg 8 (by omega)
 by_cases hh:h < 16
 ·go_enter Tryz.func181,Tryz.ntmps181
  go_wp2_with fail
  refine(put_ok n M at' fuel h code loops w hd hh).mono ?_
  rintro e w1 ⟨rfl,hd1,ho1⟩
  go_wp2
  exact bodyPost_end (results_none rfl _ _ _) rfl ⟨ho1,Or.inl ⟨Nat.zero_le _,by omega,rfl,hd1⟩⟩
 ·go_enter Tryz.func181,Tryz.ntmps181
  go_wp2_with fail
  refine(put_full n M at' fuel h code loops w hd (by have:=hv.hh;omega) u p hv.he).mono ?_
  rintro e w1 ⟨rfl,rfl⟩
  go_wp2
  exact⟨rfl,Only.refl _ _,Or.inr ⟨by omega,rfl⟩⟩
theorem do_10:Does 182 2 1:=by
 intro M at' fuel h code loops u p w hd hv
 by_cases hh:h < 2
 ·go_enter Tryz.func182,Tryz.ntmps182
  go_wp2_with fail
  refine(takeTwo_less M at' fuel h code loops w hd hh u p hv.hM hv.he).mono ?_
  rintro e w1 ⟨rfl,ho1⟩
  go_wp2
  exact⟨rfl,ho1,Or.inr ⟨by omega,rfl⟩⟩
 ·obtain⟨h,rfl⟩:∃ g,h=g+2:=⟨h - 2,by omega⟩
  have hle:=hv.hh
  go_enter Tryz.func182,Tryz.ntmps182
  go_wp2_with fail
  refine(takeTwo_ok M at' fuel h code loops w hd (by omega)).mono ?_
  rintro e w1 ⟨rfl,hd1,ho1⟩
  go_wp2_with fail
  refine(put_ok _ M at' fuel h code loops w1 hd1 (by omega)).mono ?_
  rintro e w2 ⟨rfl,hd2,ho2⟩
  go_wp2
  exact bodyPost_end (results_none rfl _ _ _) rfl ⟨ho1.trans ho2,Or.inl ⟨by omega,by omega,rfl,hd2⟩⟩
theorem do_11:Does 184 2 1:=by
 intro M at' fuel h code loops u p w hd hv
 by_cases hh:h < 2
 ·go_enter Tryz.func184,Tryz.ntmps184
  go_wp2_with fail
  refine(takeTwo_less M at' fuel h code loops w hd hh u p hv.hM hv.he).mono ?_
  rintro e w1 ⟨rfl,ho1⟩
  go_wp2
  exact⟨rfl,ho1,Or.inr ⟨by omega,rfl⟩⟩
 ·obtain⟨h,rfl⟩:∃ g,h=g+2:=⟨h - 2,by omega⟩
  have hle:=hv.hh
  go_enter Tryz.func184,Tryz.ntmps184
  go_wp2_with fail
  refine(takeTwo_ok M at' fuel h code loops w hd (by omega)).mono ?_
  rintro e w1 ⟨rfl,hd1,ho1⟩
  go_wp2_with fail
  refine(put_ok _ M at' fuel h code loops w1 hd1 (by omega)).mono ?_
  rintro e w2 ⟨rfl,hd2,ho2⟩
  go_wp2
  exact bodyPost_end (results_none rfl _ _ _) rfl ⟨ho1.trans ho2,Or.inl ⟨by omega,by omega,rfl,hd2⟩⟩
theorem do_12:Does 185 2 1:=by
 intro M at' fuel h code loops u p w hd hv
 by_cases hh:h < 2
 ·go_enter Tryz.func185,Tryz.ntmps185
  go_wp2_with fail
  refine(takeTwo_less M at' fuel h code loops w hd hh u p hv.hM hv.he).mono ?_
  rintro e w1 ⟨rfl,ho1⟩
  go_wp2
  exact⟨rfl,ho1,Or.inr ⟨by omega,rfl⟩⟩
 ·obtain⟨h,rfl⟩:∃ g,h=g+2:=⟨h - 2,by omega⟩
  have hle:=hv.hh
  go_enter Tryz.func185,Tryz.ntmps185
  go_wp2_with fail
  refine(takeTwo_ok M at' fuel h code loops w hd (by omega)).mono ?_
  rintro e w1 ⟨rfl,hd1,ho1⟩
  go_wp2_with fail
  refine(put_ok _ M at' fuel h code loops w1 hd1 (by omega)).mono ?_
  rintro e w2 ⟨rfl,hd2,ho2⟩
  go_wp2
  exact bodyPost_end (results_none rfl _ _ _) rfl ⟨ho1.trans ho2,Or.inl ⟨by omega,by omega,rfl,hd2⟩⟩
theorem do_17:Does 192 2 1:=by
 intro M at' fuel h code loops u p w hd hv
 by_cases hh:h < 2
 ·go_enter Tryz.func192,Tryz.ntmps192
  go_wp2_with fail
  refine(takeTwo_less M at' fuel h code loops w hd hh u p hv.hM hv.he).mono ?_
  rintro e w1 ⟨rfl,ho1⟩
  go_wp2
  exact⟨rfl,ho1,Or.inr ⟨by omega,rfl⟩⟩
 ·obtain⟨h,rfl⟩:∃ g,h=g+2:=⟨h - 2,by omega⟩
  have hle:=hv.hh
  go_enter Tryz.func192,Tryz.ntmps192
  go_wp2_with fail
  refine(takeTwo_ok M at' fuel h code loops w hd (by omega)).mono ?_
  rintro e w1 ⟨rfl,hd1,ho1⟩
  go_wp2_with fail
  refine(put_ok _ M at' fuel h code loops w1 hd1 (by omega)).mono ?_
  rintro e w2 ⟨rfl,hd2,ho2⟩
  go_wp2
  exact bodyPost_end (results_none rfl _ _ _) rfl ⟨ho1.trans ho2,Or.inl ⟨by omega,by omega,rfl,hd2⟩⟩
theorem do_18:Does 193 2 1:=by
 intro M at' fuel h code loops u p w hd hv
 by_cases hh:h < 2
 ·go_enter Tryz.func193,Tryz.ntmps193
  go_wp2_with fail
  refine(takeTwo_less M at' fuel h code loops w hd hh u p hv.hM hv.he).mono ?_
  rintro e w1 ⟨rfl,ho1⟩
  go_wp2
  exact⟨rfl,ho1,Or.inr ⟨by omega,rfl⟩⟩
 ·obtain⟨h,rfl⟩:∃ g,h=g+2:=⟨h - 2,by omega⟩
  have hle:=hv.hh
  go_enter Tryz.func193,Tryz.ntmps193
  go_wp2_with fail
  refine(takeTwo_ok M at' fuel h code loops w hd (by omega)).mono ?_
  rintro e w1 ⟨rfl,hd1,ho1⟩
  go_wp2_with fail
  refine(put_ok _ M at' fuel h code loops w1 hd1 (by omega)).mono ?_
  rintro e w2 ⟨rfl,hd2,ho2⟩
  go_wp2
  exact bodyPost_end (results_none rfl _ _ _) rfl ⟨ho1.trans ho2,Or.inl ⟨by omega,by omega,rfl,hd2⟩⟩
theorem takeQuotient_ok (M at' fuel h:Nat) (code loops:Value) (w:World) (hd:Dry w M code at' fuel (h+2) loops) (hh:h+1 < 16):Calls Tryz.prog 187 #[.pointer (some ⟨M,0,none⟩)] w fun e w'=>e = .returned (.tuple #[.int .i64 1,.int .i64 1])∧Dry w' M code at' fuel h loops∧Only M w w':=by
 go_enter Tryz.func187,Tryz.ntmps187
 go_wp2_with fail
 refine(takeTwo_ok M at' fuel h code loops w hd hh).mono ?_
 rintro e w1 ⟨rfl,hd1,ho1⟩
 go_wp2
 exact bodyPost_ret (v := .tuple #[.int .i64 1,.int .i64 1]) (by simp[results,Tryz.results187,go_sem]) rfl ⟨rfl,hd1,ho1⟩
theorem takeQuotient_less (M at' fuel h:Nat) (code loops:Value) (w:World) (hd:Dry w M code at' fuel h loops) (hh:h < 2) (u:TypeId) (p:Value) (hM:5≠M) (he:w.cell? ⟨5,0,none⟩=some (.iface u p)):Calls Tryz.prog 187 #[.pointer (some ⟨M,0,none⟩)] w fun e w'=>e = .panicked [{ v := .iface u p,recovered:=false }]∧Only M w w':=by
 go_enter Tryz.func187,Tryz.ntmps187
 go_wp2_with fail
 refine(takeTwo_less M at' fuel h code loops w hd hh u p hM he).mono ?_
 rintro e w1 ⟨rfl,ho1⟩
 go_wp2
 exact⟨rfl,rfl,ho1⟩
theorem putTruth_ok (v:Bool) (M at' fuel h:Nat) (code loops:Value) (w:World) (hd:Dry w M code at' fuel h loops) (hh:h < 16):Calls Tryz.prog 190 #[.pointer (some ⟨M,0,none⟩),.bool v] w fun e w'=>e = .returned (.tuple #[])∧Dry w' M code at' fuel (h+1) loops∧Only M w w':=by
 cases v with
 | true =>
  go_enter Tryz.func190,Tryz.ntmps190
  go_wp2_with fail
  refine(put_ok 1 M at' fuel h code loops w hd hh).mono ?_
  rintro e w1 ⟨rfl,hd1,ho1⟩
  go_wp2
  exact bodyPost_end (results_none rfl _ _ _) rfl ⟨rfl,hd1,ho1⟩
 | false =>
  go_enter Tryz.func190,Tryz.ntmps190
  go_wp2_with fail
  refine(put_ok 0 M at' fuel h code loops w hd hh).mono ?_
  rintro e w1 ⟨rfl,hd1,ho1⟩
  go_wp2
  exact bodyPost_end (results_none rfl _ _ _) rfl ⟨rfl,hd1,ho1⟩
theorem do_13:Does 186 2 1:=by
 intro M at' fuel h code loops u p w hd hv
 by_cases hh:h < 2
 ·go_enter Tryz.func186,Tryz.ntmps186
  go_wp2_with fail
  refine(takeQuotient_less M at' fuel h code loops w hd hh u p hv.hM hv.he).mono ?_
  rintro e w1 ⟨rfl,ho1⟩
  go_wp2
  exact⟨rfl,ho1,Or.inr ⟨by omega,rfl⟩⟩
 ·obtain⟨h,rfl⟩:∃ g,h=g+2:=⟨h - 2,by omega⟩
  have hle:=hv.hh
  go_enter Tryz.func186,Tryz.ntmps186
  go_wp2_with fail
  refine(takeQuotient_ok M at' fuel h code loops w hd (by omega)).mono ?_
  rintro e w1 ⟨rfl,hd1,ho1⟩
  go_wp2_with fail
  refine(put_ok _ M at' fuel h code loops w1 hd1 (by omega)).mono ?_
  rintro e w2 ⟨rfl,hd2,ho2⟩
  go_wp2
  exact bodyPost_end (results_none rfl _ _ _) rfl ⟨ho1.trans ho2,Or.inl ⟨by omega,by omega,rfl,hd2⟩⟩
theorem do_14:Does 188 2 1:=by
 intro M at' fuel h code loops u p w hd hv
 by_cases hh:h < 2
 ·go_enter Tryz.func188,Tryz.ntmps188
  go_wp2_with fail
  refine(takeQuotient_less M at' fuel h code loops w hd hh u p hv.hM hv.he).mono ?_
  rintro e w1 ⟨rfl,ho1⟩
  go_wp2
  exact⟨rfl,ho1,Or.inr ⟨by omega,rfl⟩⟩
 ·obtain⟨h,rfl⟩:∃ g,h=g+2:=⟨h - 2,by omega⟩
  have hle:=hv.hh
  go_enter Tryz.func188,Tryz.ntmps188
  go_wp2_with fail
  refine(takeQuotient_ok M at' fuel h code loops w hd (by omega)).mono ?_
  rintro e w1 ⟨rfl,hd1,ho1⟩
  go_wp2_with fail
  refine(put_ok _ M at' fuel h code loops w1 hd1 (by omega)).mono ?_
  rintro e w2 ⟨rfl,hd2,ho2⟩
  go_wp2
  exact bodyPost_end (results_none rfl _ _ _) rfl ⟨ho1.trans ho2,Or.inl ⟨by omega,by omega,rfl,hd2⟩⟩
theorem do_15:Does 189 2 1:=by
 intro M at' fuel h code loops u p w hd hv
 by_cases hh:h < 2
 ·go_enter Tryz.func189,Tryz.ntmps189
  go_wp2_with fail
  refine(takeTwo_less M at' fuel h code loops w hd hh u p hv.hM hv.he).mono ?_
  rintro e w1 ⟨rfl,ho1⟩
  go_wp2
  exact⟨rfl,ho1,Or.inr ⟨by omega,rfl⟩⟩
 ·obtain⟨h,rfl⟩:∃ g,h=g+2:=⟨h - 2,by omega⟩
  have hle:=hv.hh
  go_enter Tryz.func189,Tryz.ntmps189
  go_wp2_with fail
  refine(takeTwo_ok M at' fuel h code loops w hd (by omega)).mono ?_
  rintro e w1 ⟨rfl,hd1,ho1⟩
  go_wp2_with fail
  refine(putTruth_ok _ M at' fuel h code loops w1 hd1 (by omega)).mono ?_
  rintro e w2 ⟨rfl,hd2,ho2⟩
  go_wp2
  exact bodyPost_end (results_none rfl _ _ _) rfl ⟨ho1.trans ho2,Or.inl ⟨by omega,by omega,rfl,hd2⟩⟩
theorem do_16:Does 191 2 1:=by
 intro M at' fuel h code loops u p w hd hv
 by_cases hh:h < 2
 ·go_enter Tryz.func191,Tryz.ntmps191
  go_wp2_with fail
  refine(takeTwo_less M at' fuel h code loops w hd hh u p hv.hM hv.he).mono ?_
  rintro e w1 ⟨rfl,ho1⟩
  go_wp2
  exact⟨rfl,ho1,Or.inr ⟨by omega,rfl⟩⟩
 ·obtain⟨h,rfl⟩:∃ g,h=g+2:=⟨h - 2,by omega⟩
  have hle:=hv.hh
  go_enter Tryz.func191,Tryz.ntmps191
  go_wp2_with fail
  refine(takeTwo_ok M at' fuel h code loops w hd (by omega)).mono ?_
  rintro e w1 ⟨rfl,hd1,ho1⟩
  go_wp2_with fail
  refine(putTruth_ok _ M at' fuel h code loops w1 hd1 (by omega)).mono ?_
  rintro e w2 ⟨rfl,hd2,ho2⟩
  go_wp2
  exact bodyPost_end (results_none rfl _ _ _) rfl ⟨ho1.trans ho2,Or.inl ⟨by omega,by omega,rfl,hd2⟩⟩
theorem do_20:Does 196 1 0:=by
 intro M at' fuel h code loops u p w hd hv
 have hle:=hv.hh
 match h,hd,hle with
 | 0,hd,_ =>
  go_enter Tryz.func196,Tryz.ntmps196
  go_wp2_with fail
  refine(take_none M at' fuel code loops w hd u p hv.he).mono ?_
  rintro e w1 ⟨rfl,rfl⟩
  go_wp2
  exact⟨rfl,Only.refl _ _,Or.inr ⟨by omega,rfl⟩⟩
 | h+1,hd,hle =>
  go_enter Tryz.func196,Tryz.ntmps196
  go_wp2_with fail
  refine(take_ok M at' fuel h code loops w hd (by omega)).mono ?_
  rintro e w1 ⟨rfl,hd1,ho1⟩
  go_wp2
  exact bodyPost_end (results_none rfl _ _ _) rfl ⟨ho1,Or.inl ⟨by omega,by omega,rfl,hd1⟩⟩
theorem do_21:Does 197 2 2:=by
 intro M at' fuel h code loops u p w hd hv
 by_cases hh:h < 2
 ·go_enter Tryz.func197,Tryz.ntmps197
  go_wp2_with fail
  refine(takeTwo_less M at' fuel h code loops w hd hh u p hv.hM hv.he).mono ?_
  rintro e w1 ⟨rfl,ho1⟩
  go_wp2
  exact⟨rfl,ho1,Or.inr ⟨by omega,rfl⟩⟩
 ·obtain⟨h,rfl⟩:∃ g,h=g+2:=⟨h - 2,by omega⟩
  have hle:=hv.hh
  go_enter Tryz.func197,Tryz.ntmps197
  go_wp2_with fail
  refine(takeTwo_ok M at' fuel h code loops w hd (by omega)).mono ?_
  rintro e w1 ⟨rfl,hd1,ho1⟩
  go_wp2_with fail
  refine(put_ok _ M at' fuel h code loops w1 hd1 (by omega)).mono ?_
  rintro e w2 ⟨rfl,hd2,ho2⟩
  go_wp2_with fail
  refine(put_ok _ M at' fuel (h+1) code loops w2 hd2 (by omega)).mono ?_
  rintro e w3 ⟨rfl,hd3,ho3⟩
  go_wp2
  exact bodyPost_end (results_none rfl _ _ _) rfl ⟨(ho1.trans ho2).trans ho3,Or.inl ⟨by omega,by omega,rfl,hd3⟩⟩
theorem do_19:Does 194 1 2:=by
 intro M at' fuel h code loops u p w hd hv
 have hle:=hv.hh
 match h,hd,hle with
 | 0,hd,_ =>
  go_enter Tryz.func194,Tryz.ntmps194
  go_wp2_with fail
  refine(take_none M at' fuel code loops w hd u p hv.he).mono ?_
  rintro e w1 ⟨rfl,rfl⟩
  go_wp2
  exact⟨rfl,Only.refl _ _,Or.inr ⟨by omega,rfl⟩⟩
 | h+1,hd,hle =>
  go_enter Tryz.func194,Tryz.ntmps194
  go_wp2_with fail
  refine(take_ok M at' fuel h code loops w hd (by omega)).mono ?_
  rintro e w1 ⟨rfl,hd1,ho1⟩
  go_wp2_with fail
  refine(put_ok _ M at' fuel h code loops w1 hd1 (by omega)).mono ?_
  rintro e w2 ⟨rfl,hd2,ho2⟩
  by_cases hf:h+1 < 16
  ·go_wp2_with fail
   refine(put_ok _ M at' fuel (h+1) code loops w2 hd2 hf).mono ?_
   rintro e w3 ⟨rfl,hd3,ho3⟩
   go_wp2
   exact bodyPost_end (results_none rfl _ _ _) rfl ⟨(ho1.trans ho2).trans ho3,Or.inl ⟨by omega,by omega,rfl,hd3⟩⟩
  ·go_wp2_with fail
   refine(put_full _ M at' fuel (h+1) code loops w2 hd2 (by omega) u p (((ho1.trans ho2).cell hv.hM).trans hv.he)).mono ?_
   rintro e w3 ⟨rfl,rfl⟩
   go_wp2
   exact⟨rfl,ho1.trans ho2,Or.inr ⟨by omega,rfl⟩⟩
theorem do_22:Does 198 2 3:=by
 intro M at' fuel h code loops u p w hd hv
 by_cases hh:h < 2
 ·go_enter Tryz.func198,Tryz.ntmps198
  go_wp2_with fail
  refine(takeTwo_less M at' fuel h code loops w hd hh u p hv.hM hv.he).mono ?_
  rintro e w1 ⟨rfl,ho1⟩
  go_wp2
  exact⟨rfl,ho1,Or.inr ⟨by omega,rfl⟩⟩
 ·obtain⟨h,rfl⟩:∃ g,h=g+2:=⟨h - 2,by omega⟩
  have hle:=hv.hh
  go_enter Tryz.func198,Tryz.ntmps198
  go_wp2_with fail
  refine(takeTwo_ok M at' fuel h code loops w hd (by omega)).mono ?_
  rintro e w1 ⟨rfl,hd1,ho1⟩
  go_wp2_with fail
  refine(put_ok _ M at' fuel h code loops w1 hd1 (by omega)).mono ?_
  rintro e w2 ⟨rfl,hd2,ho2⟩
  go_wp2_with fail
  refine(put_ok _ M at' fuel (h+1) code loops w2 hd2 (by omega)).mono ?_
  rintro e w3 ⟨rfl,hd3,ho3⟩
  have ho:=(ho1.trans ho2).trans ho3
  by_cases hf:h+2 < 16
  ·go_wp2_with fail
   refine(put_ok _ M at' fuel (h+2) code loops w3 hd3 hf).mono ?_
   rintro e w4 ⟨rfl,hd4,ho4⟩
   go_wp2
   exact bodyPost_end (results_none rfl _ _ _) rfl ⟨ho.trans ho4,Or.inl ⟨by omega,by omega,rfl,hd4⟩⟩
  ·go_wp2_with fail
   refine(put_full _ M at' fuel (h+2) code loops w3 hd3 (by omega) u p ((ho.cell hv.hM).trans hv.he)).mono ?_
   rintro e w4 ⟨rfl,rfl⟩
   go_wp2
   exact⟨rfl,ho,Or.inr ⟨by omega,rfl⟩⟩
theorem choose_any:Does 200 3 1:=by
 intro M at' fuel h code loops u p w hd hv
 by_cases hh:h < 2
 ·go_enter Tryz.func200,Tryz.ntmps200
  go_wp2_with fail
  refine(takeTwo_less M at' fuel h code loops w hd hh u p hv.hM hv.he).mono ?_
  rintro e w1 ⟨rfl,ho1⟩
  go_wp2
  exact⟨rfl,ho1,Or.inr ⟨by omega,rfl⟩⟩
 ·obtain⟨h,rfl⟩:∃ g,h=g+2:=⟨h - 2,by omega⟩
  have hle:=hv.hh
  go_enter Tryz.func200,Tryz.ntmps200
  go_wp2_with fail
  refine(takeTwo_ok M at' fuel h code loops w hd (by omega)).mono ?_
  rintro e w1 ⟨rfl,hd1,ho1⟩
  match h,hd1,hle with
  | 0,hd1,_ =>
   go_wp2_with fail
   refine(take_none M at' fuel code loops w1 hd1 u p ((ho1.cell hv.hM).trans hv.he)).mono ?_
   rintro e w2 ⟨rfl,rfl⟩
   go_wp2
   exact⟨rfl,ho1,Or.inr ⟨by omega,rfl⟩⟩
  | h+1,hd1,hle =>
   go_wp2_with fail
   refine(take_ok M at' fuel h code loops w1 hd1 (by omega)).mono ?_
   rintro e w2 ⟨rfl,hd2,ho2⟩
   go_wp2_with fail
   refine(put_ok _ M at' fuel h code loops w2 hd2 (by omega)).mono ?_
   rintro e w3 ⟨rfl,hd3,ho3⟩
   go_wp2
   exact bodyPost_end (results_none rfl _ _ _) rfl ⟨(ho1.trans ho2).trans ho3,Or.inl ⟨by omega,by omega,rfl,hd3⟩⟩
theorem do_23:Does 199 3 1:=by
 intro M at' fuel h code loops u p w hd hv
 go_enter Tryz.func199,Tryz.ntmps199
 go_wp2_with fail
 refine(choose_any M at' fuel h code loops u p w hd hv).mono ?_
 rintro e w1 ⟨ho,⟨g1,g2,rfl,hd1⟩ | ⟨g,rfl⟩⟩
 ·go_wp2
  exact bodyPost_end (results_none rfl _ _ _) rfl ⟨ho,Or.inl ⟨g1,g2,rfl,hd1⟩⟩
 ·go_wp2
  exact⟨rfl,ho,Or.inr ⟨g,rfl⟩⟩
theorem do_num (B:Nat) (n:Int) (M at' fuel h:Nat) (code loops:Value) (u:TypeId) (p:Value) (w:World) (hd:Dry w M code at' fuel h loops) (hv:DryEnv M h u p w) (hn:w.cell? ⟨B,0,none⟩=some (.int .i64 n)) :
  Calls Tryz.prog 300 #[.pointer (some ⟨M,0,none⟩),.pointer (some ⟨B,0,none⟩)] w (DoPost 0 1 M at' fuel h code loops u p w):=by
 by_cases hh:h < 16
 ·go_enter Tryz.func300,Tryz.ntmps300
  go_wp2_with fail
  refine(put_ok n M at' fuel h code loops w hd hh).mono ?_
  rintro e w1 ⟨rfl,hd1,ho1⟩
  go_wp2
  exact bodyPost_end (results_none rfl _ _ _) rfl ⟨ho1,Or.inl ⟨Nat.zero_le _,by omega,rfl,hd1⟩⟩
 ·go_enter Tryz.func300,Tryz.ntmps300
  go_wp2_with fail
  refine(put_full n M at' fuel h code loops w hd (by have:=hv.hh;omega) u p hv.he).mono ?_
  rintro e w1 ⟨rfl,rfl⟩
  go_wp2
  exact⟨rfl,Only.refl _ _,Or.inr ⟨by omega,rfl⟩⟩
theorem Tryz.info_loop:(Tryz.prog.info? 379).map (fun i=>(i.zero,i.size,i.bytes))=some (some (.agg #[.int .i64 0,.int .i64 0]),2,16):=by kernel_rfl
theorem Dry.lt {w:World} {M at' fuel h:Nat} {code loops:Value} (hd:Dry w M code at' fuel h loops):M < w.heap.size:=World.block_lt_of_cell? w _ hd.c0
theorem Dry.far {w w':World} {M at' fuel h:Nat} {code loops:Value} (hd:Dry w M code at' fuel h loops) (hc:∀ j,w'.cell? ⟨M,j,none⟩=w.cell? ⟨M,j,none⟩) (hf:∀ j,w'.frozen? ⟨M,j,none⟩=w.frozen? ⟨M,j,none⟩):Dry w' M code at' fuel h loops :=
 ⟨(hc 0).trans hd.c0,(hc 1).trans hd.c1,(hc 2).trans hd.c2,fun j hj=>by rw[hc];exact hd.sg j hj,fun j hj=>by rw[hc];exact hd.st j hj,(hc 28).trans hd.hh,(hc 29).trans hd.ll,(hc 30).trans hd.dr,fun j=>(hf j).trans (hd.fz j)⟩
theorem Dry.alloc {w:World} {M at' fuel h:Nat} {code loops:Value} (hd:Dry w M code at' fuel h loops) (o:Obj):Dry (w.alloc o) M code at' fuel h loops :=
 hd.far (fun j=>((Below.refl w.heap.size w).alloc nlr o).cell (p:=⟨M,j,none⟩) hd.lt) (fun j=>((Below.refl w.heap.size w).alloc nlr o).frozen (p:=⟨M,j,none⟩) hd.lt)
theorem Dry.grown {w w':World} {M at' fuel h:Nat} {code loops:Value} {row:Option Nat} (hd:Dry w M code at' fuel h loops) (hg:w.grownBy w' row) (hne:some M≠row):Dry w' M code at' fuel h loops :=
 hd.far (fun j=>hg.cell_far ⟨M,j,none⟩ hd.lt hne) (fun j=>hg.frozen_far ⟨M,j,none⟩ hd.lt hne)
theorem Dry.lps {w:World} {M at' fuel h:Nat} {code loops:Value} (hd:Dry w M code at' fuel h loops) (l':Value):Dry (w.setCell ⟨M,29,none⟩ l') M code at' fuel h l':=by
 obtain⟨c0,c1,c2,sg,st,hh,ll,dr,fz⟩:=hd
 refine⟨?_,?_,?_,fun j hj=>?_,fun j hj=>?_,?_,?_,?_,fun j=>?_⟩
 ·rw[cso (by omega)];exact c0
 ·rw[cso (by omega)];exact c1
 ·rw[cso (by omega)];exact c2
 ·rw[cso (by omega)];exact sg j hj
 ·rw[cso (by omega)];exact st j hj
 ·rw[cso (by omega)];exact hh
 ·exact World.cell?_setCell_same _ _ _ ll
 ·rw[cso (by omega)];exact dr
 ·rw[World.frozen?_setCell];exact fz j
theorem Only.own {M:Nat} {w w':World} (h:Only M w w') {e size n:Nat} {v:Value} {xs:List Value} (ho:w.ownsRow (M+1) e size v n xs):w'.ownsRow (M+1) e size v n xs:=by
 obtain⟨h1,h2⟩:=ho
 refine⟨h1,?_⟩
 rcases h2 with h2 | ⟨g,cap,cur,hv,hB,hg,r⟩
 ·exact .inl h2
 ·exact .inr ⟨g,cap,cur,hv,hB,(h.2 g (by omega)).trans hg,r⟩
theorem begin_ok (M at' fuel h n:Nat) (code x:Value) (xs:List Value) (w:World) (hd:Dry w M code at' fuel (h+1) x) (hle:h+1≤16) (hn:n≤10000) (ho:w.ownsRow (M+1) 379 2 x n xs) :
  Calls Tryz.prog 202 #[.pointer (some ⟨M,0,none⟩)] w fun e w'=>e = .returned (.tuple #[])∧∃ x',Dry w' M code at' fuel h x'∧w'.ownsRow (M+1) 379 2 x' (n+1) (xs++[.int .i64 1,.int .i64 h])∧Below M w w':=by
 obtain⟨t2,ht2,hva,hvb,hvc⟩:=info_parts Tryz.info_loop
 go_enter Tryz.func202,Tryz.ntmps202
 go_wp2_with fail
 refine(take_ok M at' fuel h code x w hd (by omega)).mono ?_
 rintro e w1 ⟨rfl,hd1,ho1⟩
 have hr:w1.ownsRow (M+1) 379 2 x n xs:=ho1.own ho
 have hml:=hd1.lt
 have e1:=hd1.hh
 have e2:=hd1.ll
 have e3:=hd1.fz 29
 have hne2:some M≠x.ownBlock:=fun e=>by have:=(hr.lt M e.symm).1;omega
 go_wp2_with fail
 go_region_law ((refine step_append_lies _ (by rfl) _ _ _ (by rfl) (M+1) 379 t2 _ 2 16 Tryz.underlying257 ht2 hva hvb hvc rfl (by omega) x _ _ (by rfl) ((hr.alloc _).drew) ⟨w1.heap.size,0,none⟩ 1 1 [.int .i64 1,.int .i64 (h:Int)] (by rfl) (by rfl) (World.news_of_block (cs := #[.int .i64 1,.int .i64 (h:Int)]) (t:=379) (fr:=(0,0)) (heap_alloc_new w1 _)) (by simp[Value.oneCell']) (by omega) (by unfold maxLen;omega) (by omega) (by simp;omega) (w1.heap.size+1) (by simp) ?_;intro gg cp w2 hown1 hgrow hat hlt1;have hq0:w2.cell? ⟨M,29,none⟩=some x:=(hgrow.cell_far ⟨M,29,none⟩ (by simp;omega) hne2).trans ((hd1.alloc _).drew).ll;have hq1:w2.frozen? ⟨M,29,none⟩=false:=(hgrow.frozen_far ⟨M,29,none⟩ (by simp;omega) hne2).trans (((hd1.alloc _).drew).fz 29)))
 all_goals
  have hb1:=below_app (((Below.refl M w1).alloc (Nat.le_of_lt hml) _).drew) ((hd1.alloc _).drew).lt ((hr.alloc _).drew) hgrow 29 (.slice (some ⟨gg,0,none⟩) (n+1) cp)
  exact bodyPost_end (results_none rfl _ _ _) rfl ⟨rfl,_,(((hd1.alloc _).drew).grown hgrow hne2).lps _,((Only.refl M w2).set _ _).own hown1,ho1.below.trans hb1⟩
end Go.Proofs.YteflnddphpjahaaGreatDoor
