import Derived.Test.YteflnddphpjahaaGreatDoorCmCqOtoCqQ
import Derived.Test.YteflnddphpjahaaGreatDoorCmCqLtoAppK
import Derived.Defers
import Derived.Recover
import Derived.Laws.Tables
set_option linter.unusedVariables false
set_option linter.unusedSimpArgs false
set_option maxRecDepth 100000
set_option maxHeartbeats 16000000
namespace Go.Proofs.YteflnddphpjahaaGreatDoor
open Go.RowKit
structure CodeAt (w:World) (g:Nat) (L:List (List UInt8)):Prop where
 lt:g < w.heap.size
 fn:∀ i (hi:i < L.length),∃ fv,w.cell? ⟨g,i * 2,none⟩=some fv∧Fn w w.heap.size L[i] fv
 mate:∃ ms,Sp.rdTo L L.length=some (ms,[])∧∀ i,i < L.length→w.cell? ⟨g,i * 2+1,none⟩=some (.int .i64 ((ms.getD i 0:Nat):Int))
theorem CodeAt.below {w w':World} {g:Nat} {L:List (List UInt8)} (h:CodeAt w g L) (hb:Below w.heap.size w w'):CodeAt w' g L:=by
 obtain⟨ms,m1,m2⟩:=h.mate
 refine⟨Nat.lt_of_lt_of_le h.lt hb.size,fun i hi=>?_,ms,m1,fun i hi=>(hb.cell (p:=⟨g,i * 2+1,none⟩) h.lt).trans (m2 i hi)⟩
 obtain⟨fv,f1,f2⟩:=h.fn i hi
 exact⟨fv,(hb.cell (p:=⟨g,i * 2,none⟩) h.lt).trans f1,f2.below hb⟩
theorem rd_len (L:List (List UInt8)):∀ (k:Nat) (m o:List Nat),Sp.rdTo L k=some (m,o)→m.length=k:=by
 intro k
 induction k with
 | zero=>intro m' o' h;simp[Sp.rdTo] at h;obtain⟨rfl,_⟩:=h;rfl
 | succ k ih =>
  intro m' o' h
  simp only[Sp.rdTo] at h
  split at h
  ·cases h
  ·rename_i m2 o2 h2
   rw[(Sp.rst_len h).1,ih _ _ h2]
theorem code_at {w:World} {B g cap:Nat} {L:List (List UInt8)} {fs:List Value} {ms:List Nat} (ho:w.ownsRow B 336 2 (.slice (some ⟨g,0,none⟩) L.length cap) L.length (cz fs ms)) (hl:fs.length=L.length) (hr:Sp.rdTo L L.length=some (ms,[])) (hf:∀ j (hj:j < L.length),Fn w w.heap.size L[j] (fs.getD j .nilFunc)):CodeAt w g L:=by
 have hm:=rd_len L _ _ _ hr
 refine⟨(ho.lt g rfl).2,fun i hi=>⟨fs.getD i .nilFunc,?_,hf i hi⟩,ms,hr,fun i hi=>?_⟩
 ·rw[ho.cellAt (i * 2) (by omega),cz_fn _ _ _ (by omega),List.getD_eq_getElem?_getD,List.getElem?_eq_getElem (by omega)];rfl
 ·rw[ho.cellAt (i * 2+1) (by omega),cz_mate _ _ _ (by omega),List.getD_eq_getElem?_getD,List.getElem?_eq_getElem (by omega)];rfl
theorem CodeAt.aside {w:World} {g P t:Nat} {L:List (List UInt8)} {C:Array Value} (h:CodeAt w g L) (hP:w.heap[P]? = some (.cells C t (0,0))) (hlt:P < g) (ht:t≠2) (j:Nat) (v:Value):CodeAt (w.setCell ⟨P,j,none⟩ v) g L∧(w.setCell ⟨P,j,none⟩ v).heap[P]? = some (.cells (C.setIfInBounds j v) t (0,0)):=by
 have hb:∀ k,k≠P→(w.setCell ⟨P,j,none⟩ v).heap[k]? = w.heap[k]?:=fun k hk=>Below.heap_setCell _ _ _ _ hk
 have hc:∀ o,(w.setCell ⟨P,j,none⟩ v).cell? ⟨g,o,none⟩=w.cell? ⟨g,o,none⟩:=fun o=>by simp only[World.cell?,hb g (by omega)]
 obtain⟨ms,m1,m2⟩:=h.mate
 refine⟨⟨by simpa using h.lt,fun i hi=>?_,ms,m1,fun i hi=>(hc _).trans (m2 i hi)⟩,blk_set hP v⟩
 obtain⟨fv,f1,f2⟩:=h.fn i hi
 refine⟨fv,(hc _).trans f1,?_⟩
 rcases f2 with ⟨B,n,q1,q2,q3,q4⟩ | f2
 ·refine Or.inl ⟨B,n,by simpa using q1,q2,(hb B ?_).trans q3,q4⟩
  intro e
  subst e
  unfold NumAt at q3
  rw[hP] at q3
  injection q3 with q3
  injection q3 with _ q5
  exact ht q5
 ·exact Or.inr f2
def wds (x:ByteArray):List (List UInt8):=(Sp.ws x).tail.map (·.data.toList)
def fl (i:Nat) (x:ByteArray):Bool:=decide (5≤i∧(Sp.hd i++[32]) <+: x.data.toList∧(wds x).headD [] ∈ Sp.combsL)
def fval:Bool→Nat→Value
 | false,_=>.nilFunc
 | true,F=>.func (.func F) #[] #[]
theorem fl_code {i:Nat} {x:ByteArray} (h:i < 5):fl i x=false:=decide_eq_false (fun hc=>by omega)
theorem fl_pre {i:Nat} {x:ByteArray} (h:¬ (Sp.hd i++[32]) <+: x.data.toList):fl i x=false:=decide_eq_false (fun hc=>h hc.2.1)
def RLPost (i:Nat) (x:ByteArray) (w:World) (e:Ending) (w':World):Prop :=
 Below w.heap.size w w'∧∃ p n cap b z f,e = .returned (.tuple #[.agg #[.slice p n cap,.string b,.int .i64 z,f],.bool (Sp.lineOk i x)])∧(∃ F,f=fval (fl i x) F) ∧
  (Sp.lineOk i x=true→i < 5→n=(wds x).length∧∃ g,p=some ⟨g,0,none⟩∧w.heap.size≤g∧CodeAt w' g (wds x)) ∧
  (Sp.lineOk i x=true→5≤i→∃ k,k < 3∧b=cmNm k∧z=cmNt k∧f=cmFn k∧wds x=[Sp.combsL[k]!])
theorem blk4 {w:World} {G t:Nat} {c0 c1 c2 c3:Value} (h:w.heap[G]? = some (.cells #[c0,c1,c2,c3] t)) :
  w.cell? ⟨G,0,none⟩=some c0∧w.cell? ⟨G,1,none⟩=some c1∧w.cell? ⟨G,2,none⟩=some c2∧w.cell? ⟨G,3,none⟩=some c3∧∀ j,w.frozen? ⟨G,j,none⟩=false :=
 ⟨by simp[World.cell?,h],by simp[World.cell?,h],by simp[World.cell?,h],by simp[World.cell?,h],fun j=>by simp[World.frozen?,h]⟩
theorem csplit_ok_below {w w':World} {B:Nat} (h:SplitOk w) (hb:Below B w w') (hB:6 < B):SplitOk w':=by
 obtain⟨m,hm⟩:=h
 exact⟨m,(hb.cell (p:=⟨6,0,none⟩) hB).trans hm⟩
theorem SplitOk.lt {w:World} (h:SplitOk w):6 < w.heap.size:=by
 obtain⟨m,hm⟩:=h
 exact World.block_lt_of_cell? w _ hm
theorem rl_no {i:Nat} {x:ByteArray} {w w':World} {p:Option Addr} {n cap:Nat} {b:ByteArray} {z:Int} {f:Value} (hi:i < 7) (hb:Below w.heap.size w w') (hk:Sp.lineOk i x=false) (hf:∃ F,f=fval (fl i x) F) :
  RLPost i x w (.returned (.tuple #[.agg #[.slice p n cap,.string b,.int .i64 z,f],.bool false])) w':=by
 refine⟨hb,p,n,cap,b,z,f,by rw[hk],hf,?_,?_⟩
 ·intro h;rw[hk] at h;cases h
 ·intro h;rw[hk] at h;cases h
theorem readLine_code (i:Nat) (x nm:ByteArray) (b:Nat) (w:World) (hi:i < 5) (hx:x.size≤2000) (hn:nm.size≤10) (hnm:nm.data.toList++[58]=Sp.hd i) (hg:SplitOk w) (hW:WordsAt b w) :
  Calls Tryz.prog 122 #[.string x,.agg #[.string nm,.bool true,.bool (i == 2)],.slice (some ⟨b,0,none⟩) 25 25] w (RLPost i x w):=by
 have hpre:nm.data.toList++[58,32]=Sp.hd i++[32]:=by rw[← hnm];simp
 have HNO:=hde (fun (hk:Sp.lineOk i x=false) (w':World) (hb:Below w.heap.size w w') (p:Option Addr) (n cap:Nat)=>rl_no (p:=p) (n:=n) (cap:=cap) (b:=⟨#[]⟩) (z:=0) (f := .nilFunc) (by omega) hb hk ⟨0,by rw[fl_code hi];rfl⟩)
 have HYES:=hde (fun (hk:Sp.lineOk i x=true) (w':World) (hb:Below w.heap.size w w') (g cap:Nat) (hg:w.heap.size≤g) (hc:CodeAt w' g (wds x))=>(show RLPost i x w (.returned (.tuple #[.agg #[.slice (some ⟨g,0,none⟩) (wds x).length cap,.string ⟨#[]⟩,.int .i64 0,.nilFunc],.bool true])) w' from ⟨hb,_,_,_,_,_,_,by rw[hk],⟨0,by rw[fl_code hi];rfl⟩,fun _ _=>⟨rfl,g,rfl,hg,hc⟩,fun _ h5=>absurd h5 (by omega)⟩))
 have HLO:=hde (fun (rest:ByteArray) (h:x.data.toList=Sp.hd i++32 :: rest.data.toList)=>Sp.lineOk_code (i:=i) hi h)
 have HL0:=hde (fun (h:¬ (Sp.hd i++[32]) <+: x.data.toList)=>Sp.lineOk_no (i:=i) (by omega) h)
 have HWT:=hde (fun (rest:ByteArray) (h:x.data.toList=Sp.hd i++32 :: rest.data.toList)=>(Sp.ws_tail (i:=i) (by omega) h).1)
 generalize RLPost i x w=O at *
 have HSL:=hde (fun w0 (hg0:SplitOk w0)=>splitLine_any x nm w0 hx hn hg0)
 rw[hpre] at HSL
 generalize hwt:(i == 2)=wt at HLO ⊢
 clear hwt
 go_enter Tryz.func122,Tryz.ntmps122
 go_wp2_with fail
 have hb0:Below w.heap.size w ((w.alloc (.cells #[.string nm,.bool true,.bool wt] 180)).alloc (.cells #[.slice none 0 0,.string ⟨#[]⟩,.int .i64 0,.nilFunc] 175)):=((Below.refl _ w).alloc nlr _).alloc (by simp) _
 have hs0:((w.alloc (.cells #[.string nm,.bool true,.bool wt] 180)).alloc (.cells #[.slice none 0 0,.string ⟨#[]⟩,.int .i64 0,.nilFunc] 175)).heap[w.heap.size]? = some (.cells #[.string nm,.bool true,.bool wt] 180):=by
  rw[Below.heap_alloc _ _ _ (by simp)];exact heap_alloc_new w _
 have hr0:((w.alloc (.cells #[.string nm,.bool true,.bool wt] 180)).alloc (.cells #[.slice none 0 0,.string ⟨#[]⟩,.int .i64 0,.nilFunc] 175)).heap[w.heap.size+1]? = some (.cells #[.slice none 0 0,.string ⟨#[]⟩,.int .i64 0,.nilFunc] 175):=by
  rw[← World.size_alloc w (.cells #[.string nm,.bool true,.bool wt] 180)];exact heap_alloc_new _ _
 refine(uh HSL _ (csplit_ok_below hg hb0 hg.lt)).mono ?_
 rintro e w1 ⟨hb1,⟨hp,p,n,cap,rfl⟩ | ⟨rest,hrz,hrest,g,hgg,rfl,hsat⟩⟩
 ·have hbw:=hb0.trans (hb1.mono hb0.size)
  have hr1:=(hb1.block (w.heap.size+1) (by simp)).trans hr0
  obtain⟨k0,k1,k2,k3,kf⟩:=blk4 hr1
  have f0:=kf 0
  have f1:=kf 1
  have f2:=kf 2
  have f3:=kf 3
  have hfin:=uh HNO (uh HL0 hp) _ ((((hbw.setCell (p:=⟨w.heap.size+1,0,none⟩) (by simp) (.slice none 0 0)).setCell (p:=⟨w.heap.size+1,1,none⟩) (by simp) (.string ⟨#[]⟩)).setCell (p:=⟨w.heap.size+1,2,none⟩) (by simp) (.int .i64 0)).setCell (p:=⟨w.heap.size+1,3,none⟩) (by simp) .nilFunc) none 0 0
  clear hb0 hs0 hr0 hb1 hr1 hbw kf hp
  go_wp2
  refine bodyPost_ret (v := .tuple #[.agg #[.slice none 0 0,.string ⟨#[]⟩,.int .i64 0,.nilFunc],.bool false]) ?_ rfl hfin
  simp[results,Tryz.results122,go_sem,k0,k1,k2,k3]
 ·have hbw:=hb0.trans (hb1.mono hb0.size)
  have hr1:=(hb1.block (w.heap.size+1) (by simp)).trans hr0
  have hs1:=(hb1.block w.heap.size (by simp <;> omega)).trans hs0
  obtain⟨s0,s1,s2,sf⟩:=blk3 hs1
  have hrest2:x.data.toList=Sp.hd i++32 :: rest.data.toList:=by rw[hrest];simp
  have hlen:=Sp.split_len rest 32
  have HRC:=hde (readCode_any (Sp.split rest 32) (some ⟨g,0,none⟩) (Sp.split rest 32).length b wt w1 hsat (by omega) hlen.1 (fun y hy=>Nat.le_trans (Sp.cut_size rest 32 y hy) (by omega)) (hW.below hbw))
  have hlo:=uh HLO rest hrest2
  have hws:=uh HWT rest hrest2
  have hwd:wds x=lst (Sp.split rest 32):=by unfold wds lst;rw[hws]
  have HLO2:Hid (Sp.lineOk i x=Sp.fmd wt (lst (Sp.split rest 32)) 0):=hlo
  have HWD:=hde hwd
  clear hb0 hs0 hr0 hb1 sf hs1 hsat hlo hws hwd hrest hrest2 hlen
  generalize hNN:(Sp.split rest 32).length=N at HRC ⊢
  have HNN:=hde hNN
  clear hNN
  go_wp2_with fail
  refine(uh HRC).mono ?_
  rintro e w2 ⟨hb2,⟨hfm,g2,cap2,fs,ms,rfl,hg2,ho2,hfl,hrd,hfn⟩ | ⟨hfm,p2,n2,cap2,rfl⟩⟩
  ·have hbw2:=hbw.trans (hb2.mono hbw.size)
   have hr2:=(hb2.block (w.heap.size+1) (Array.getElem?_eq_some_iff.1 hr1).1).trans hr1
   obtain⟨k0,k1,k2,k3,kf⟩:=blk4 hr2
   have f0:=kf 0
   have f1:=kf 1
   have f2:=kf 2
   have f3:=kf 3
   have hca:=code_at ho2 hfl hrd hfn
   rw[← uh HWD] at hca
   have hok:Sp.lineOk i x=true:=(uh HLO2).trans hfm
   have hne:w.heap.size+1 < g2:=Nat.lt_of_lt_of_le (Array.getElem?_eq_some_iff.1 hr1).1 hg2
   have hst:∀ (W:World) (j:Nat) (v:Value),CodeAt W g2 (wds x)→W.heap[w.heap.size+1]? = some (.cells #[.slice none 0 0,.string ⟨#[]⟩,.int .i64 0,.nilFunc] 175)∨True→CodeAt W g2 (wds x):=fun W j v h _=>h
   have hfin:=uh HYES hok _ ((((hbw2.setCell (p:=⟨w.heap.size+1,0,none⟩) (by simp) (.slice (some ⟨g2,0,none⟩) (lst (Sp.split rest 32)).length cap2)).setCell (p:=⟨w.heap.size+1,1,none⟩) (by simp) (.string ⟨#[]⟩)).setCell (p:=⟨w.heap.size+1,2,none⟩) (by simp) (.int .i64 0)).setCell (p:=⟨w.heap.size+1,3,none⟩) (by simp) .nilFunc) g2 cap2 (Nat.le_trans hbw.size hg2)
    ((((hca.aside hr2 hne (by decide) 0 _).1.aside (hca.aside hr2 hne (by decide) 0 _).2 hne (by decide) 1 _).1.aside ((hca.aside hr2 hne (by decide) 0 _).1.aside (hca.aside hr2 hne (by decide) 0 _).2 hne (by decide) 1 _).2 hne (by decide) 2 _).1.aside (((hca.aside hr2 hne (by decide) 0 _).1.aside (hca.aside hr2 hne (by decide) 0 _).2 hne (by decide) 1 _).1.aside ((hca.aside hr2 hne (by decide) 0 _).1.aside (hca.aside hr2 hne (by decide) 0 _).2 hne (by decide) 1 _).2 hne (by decide) 2 _).2 hne (by decide) 3 _).1
   rw[show (wds x).length=(lst (Sp.split rest 32)).length by rw[uh HWD]] at hfin
   generalize (lst (Sp.split rest 32)).length=N2 at hfin ⊢
   clear hst hbw hbw2 hr1 hr2 kf hb2 hfm hok hca ho2 hfl hrd hfn hg2 hne
   go_wp2
   refine bodyPost_ret (v := .tuple #[.agg #[.slice (some ⟨g2,0,none⟩) N2 cap2,.string ⟨#[]⟩,.int .i64 0,.nilFunc],.bool true]) ?_ rfl hfin
   simp[results,Tryz.results122,go_sem,k0,k1,k2,k3]
  ·have hbw2:=hbw.trans (hb2.mono hbw.size)
   have hr2:=(hb2.block (w.heap.size+1) (Array.getElem?_eq_some_iff.1 hr1).1).trans hr1
   obtain⟨k0,k1,k2,k3,kf⟩:=blk4 hr2
   have f0:=kf 0
   have f1:=kf 1
   have f2:=kf 2
   have f3:=kf 3
   have hok:Sp.lineOk i x=false:=(uh HLO2).trans hfm
   have hfin:=uh HNO hok _ ((((hbw2.setCell (p:=⟨w.heap.size+1,0,none⟩) (by simp) (.slice p2 n2 cap2)).setCell (p:=⟨w.heap.size+1,1,none⟩) (by simp) (.string ⟨#[]⟩)).setCell (p:=⟨w.heap.size+1,2,none⟩) (by simp) (.int .i64 0)).setCell (p:=⟨w.heap.size+1,3,none⟩) (by simp) .nilFunc) p2 n2 cap2
   clear hbw hbw2 hr1 hr2 kf hb2 hfm hok
   go_wp2
   refine bodyPost_ret (v := .tuple #[.agg #[.slice p2 n2 cap2,.string ⟨#[]⟩,.int .i64 0,.nilFunc],.bool false]) ?_ rfl hfin
   simp[results,Tryz.results122,go_sem,k0,k1,k2,k3]
theorem headD_get {X:List ByteArray} (h:0 < X.length):X.headD ⟨#[]⟩=X[0]:=by
 cases X with
 | nil=>simp at h
 | cons a l=>rfl
theorem lst_head {X:List ByteArray} (h:0 < X.length):(lst X).headD []=X[0].data.toList:=by
 cases X with
 | nil=>simp at h
 | cons a l=>rfl
theorem lst_one {X:List ByteArray} (h:0 < X.length) (h1:X.length=1):lst X=[X[0].data.toList]:=by
 cases X with
 | nil=>simp at h
 | cons a l =>
  have:l=[]:=List.eq_nil_of_length_eq_zero (by simpa using h1)
  subst this
  rfl
theorem readLine_comb (i:Nat) (x nm:ByteArray) (b:Nat) (w:World) (hi:5≤i) (hi7:i < 7) (hx:x.size≤2000) (hn:nm.size≤10) (hnm:nm.data.toList++[58]=Sp.hd i) (hg:SplitOk w) (hW:WordsAt b w) :
  Calls Tryz.prog 122 #[.string x,.agg #[.string nm,.bool false,.bool false],.slice (some ⟨b,0,none⟩) 25 25] w (RLPost i x w):=by
 have hpre:nm.data.toList++[58,32]=Sp.hd i++[32]:=by rw[← hnm];simp
 have HNO:=hde (fun (hk:Sp.lineOk i x=false) (w':World) (hb:Below w.heap.size w w') (nmb:ByteArray) (z:Int) (f:Value) (hf:∃ F,f=fval (fl i x) F)=>rl_no (p:=none) (n:=0) (cap:=0) (b:=nmb) (z:=z) (f:=f) hi7 hb hk hf)
 have HYES:=hde (fun (hk:Sp.lineOk i x=true) (w':World) (hb:Below w.heap.size w w') (k:Nat) (hk3:k < 3) (hw:wds x=[Sp.combsL[k]!]) (hfl:fl i x=true)=>(show RLPost i x w (.returned (.tuple #[.agg #[.slice none 0 0,.string (cmNm k),.int .i64 (cmNt k),cmFn k],.bool true])) w' from ⟨hb,none,0,0,cmNm k,cmNt k,cmFn k,by rw[hk],⟨cmF[k]!,by rw[hfl];rfl⟩,fun _ h5=>absurd h5 (by omega),fun _ _=>⟨k,hk3,rfl,rfl,rfl,hw⟩⟩))
 have HLO:=hde (fun (rest:ByteArray) (h:x.data.toList=Sp.hd i++32 :: rest.data.toList)=>Sp.lineOk_comb (i:=i) hi hi7 h)
 have HL0:=hde (fun (h:¬ (Sp.hd i++[32]) <+: x.data.toList)=>Sp.lineOk_no (i:=i) hi7 h)
 have HWT:=hde (fun (rest:ByteArray) (h:x.data.toList=Sp.hd i++32 :: rest.data.toList)=>(Sp.ws_tail (i:=i) hi7 h).1)
 generalize RLPost i x w=O at *
 have HSL:=hde (fun w0 (hg0:SplitOk w0)=>splitLine_any x nm w0 hx hn hg0)
 rw[hpre] at HSL
 go_enter Tryz.func122,Tryz.ntmps122
 go_wp2_with fail
 have hb0:Below w.heap.size w ((w.alloc (.cells #[.string nm,.bool false,.bool false] 180)).alloc (.cells #[.slice none 0 0,.string ⟨#[]⟩,.int .i64 0,.nilFunc] 175)):=((Below.refl _ w).alloc nlr _).alloc (by simp) _
 have hs0:((w.alloc (.cells #[.string nm,.bool false,.bool false] 180)).alloc (.cells #[.slice none 0 0,.string ⟨#[]⟩,.int .i64 0,.nilFunc] 175)).heap[w.heap.size]? = some (.cells #[.string nm,.bool false,.bool false] 180):=by
  rw[Below.heap_alloc _ _ _ (by simp)];exact heap_alloc_new w _
 have hr0:((w.alloc (.cells #[.string nm,.bool false,.bool false] 180)).alloc (.cells #[.slice none 0 0,.string ⟨#[]⟩,.int .i64 0,.nilFunc] 175)).heap[w.heap.size+1]? = some (.cells #[.slice none 0 0,.string ⟨#[]⟩,.int .i64 0,.nilFunc] 175):=by
  rw[← World.size_alloc w (.cells #[.string nm,.bool false,.bool false] 180)];exact heap_alloc_new _ _
 refine(uh HSL _ (csplit_ok_below hg hb0 hg.lt)).mono ?_
 rintro e w1 ⟨hb1,⟨hp,p,n,cap,rfl⟩ | ⟨rest,hrz,hrest,g,hgg,rfl,hsat⟩⟩
 ·have hbw:=hb0.trans (hb1.mono hb0.size)
  have hr1:=(hb1.block (w.heap.size+1) (by simp)).trans hr0
  obtain⟨k0,k1,k2,k3,kf⟩:=blk4 hr1
  have f0:=kf 0
  have f1:=kf 1
  have f2:=kf 2
  have f3:=kf 3
  have hfin:=uh HNO (uh HL0 hp) _ ((((hbw.setCell (p:=⟨w.heap.size+1,0,none⟩) (by simp) (.slice none 0 0)).setCell (p:=⟨w.heap.size+1,1,none⟩) (by simp) (.string ⟨#[]⟩)).setCell (p:=⟨w.heap.size+1,2,none⟩) (by simp) (.int .i64 0)).setCell (p:=⟨w.heap.size+1,3,none⟩) (by simp) .nilFunc) ⟨#[]⟩ 0 .nilFunc ⟨0,by rw[fl_pre hp];rfl⟩
  clear hb0 hs0 hr0 hb1 hr1 hbw kf hp
  go_wp2
  refine bodyPost_ret (v := .tuple #[.agg #[.slice none 0 0,.string ⟨#[]⟩,.int .i64 0,.nilFunc],.bool false]) ?_ rfl hfin
  simp[results,Tryz.results122,go_sem,k0,k1,k2,k3]
 ·have hbw:=hb0.trans (hb1.mono hb0.size)
  have hr1:=(hb1.block (w.heap.size+1) (by simp)).trans hr0
  have hs1:=(hb1.block w.heap.size (by simp <;> omega)).trans hs0
  obtain⟨s0,s1,s2,sf⟩:=blk3 hs1
  have hrest2:x.data.toList=Sp.hd i++32 :: rest.data.toList:=by rw[hrest];simp
  have hlen:=Sp.split_len rest 32
  obtain⟨g',off,hgo,hgl,hcell⟩:=hsat 0 hlen.1
  injection hgo with hgo
  injection hgo with e1 e2
  subst e1 e2
  have hlo:=uh HLO rest hrest2
  have hws:=uh HWT rest hrest2
  have hwd:wds x=lst (Sp.split rest 32):=by unfold wds lst;rw[hws]
  rw[headD_get hlen.1] at hlo
  have hone:=fun h1=>lst_one hlen.1 h1
  obtain⟨y,hy⟩:∃ y,(Sp.split rest 32)[0]'hlen.1=y:=⟨_,rfl⟩
  rw[hy] at hlo hcell
  have hhead:(wds x).headD []=y.data.toList:=by
   rw[hwd,← hy]
   exact lst_head hlen.1
  have hprx:(Sp.hd i++[32]) <+: x.data.toList:=⟨rest.data.toList,by rw[hrest]⟩
  have HFL1:Hid (y.data.toList ∈ Sp.combsL→fl i x=true):=fun hm=>decide_eq_true ⟨hi,hprx,by rw[hhead];exact hm⟩
  have HFL0:Hid (y.data.toList ∉ Sp.combsL→fl i x=false):=fun hm=>decide_eq_false (fun hc=>hm (by rw[← hhead];exact hc.2.2))
  clear hhead hprx
  have hone2:(Sp.split rest 32).length=1→lst (Sp.split rest 32)=[y.data.toList]:=fun h1=>by rw[hone h1,hy]
  have hlenA:=hlen.1
  have hlenB:=hlen.2
  clear hone hy hlen
  have hone:=hone2
  clear hone2
  generalize hNN:(Sp.split rest 32).length=N at hlo hone hlenA hlenB ⊢
  have HLO2:=hde hlo
  have HWD:=hde hwd
  have HONE:=hde hone
  have hN0:0 < N:=hlenA
  have hN1:(0:Int) < (N:Int):=by omega
  have hN2:N≤2001:=by omega
  clear hb0 hs0 hr0 hb1 sf hs1 hsat hlo hws hwd hrest hrest2 hlenA hlenB hone hNN
  simp only[Nat.zero_add] at hcell
  go_wp2_with fail
  refine(findCombination_any y w1).mono ?_
  rintro e w2 ⟨hb2,⟨k,hk3,hky,rfl⟩ | ⟨hno,rfl⟩⟩
  ·have hbw2:=hbw.trans (hb2.mono hbw.size)
   have hr2:=(hb2.block (w.heap.size+1) (Array.getElem?_eq_some_iff.1 hr1).1).trans hr1
   have hlt2:=(Array.getElem?_eq_some_iff.1 hr2).1
   have hr3:(w2.alloc (.cells #[.string (cmNm k),.int .i64 (cmNt k),cmFn k] 173)).heap[w.heap.size+1]? = _:=(Below.heap_alloc _ _ _ hlt2).trans hr2
   have hbw3:=hbw2.alloc (Nat.le_trans (Nat.le_succ _) (Nat.le_of_lt hlt2)) (.cells #[.string (cmNm k),.int .i64 (cmNt k),cmFn k] 173)
   obtain⟨k0,k1,k2,k3,kf⟩:=blk4 hr3
   have f0:=kf 0
   have f1:=kf 1
   have f2:=kf 2
   have f3:=kf 3
   have hmem:y.data.toList ∈ Sp.combsL:=by
    rw[← hky,getElem!_pos Sp.combsL k hk3];exact List.getElem_mem _
   have hb4:=(((hbw3.setCell (p:=⟨w.heap.size+1,0,none⟩) (by simp) (.slice none 0 0)).setCell (p:=⟨w.heap.size+1,1,none⟩) (by simp) (.string (cmNm k))).setCell (p:=⟨w.heap.size+1,2,none⟩) (by simp) (.int .i64 (cmNt k))).setCell (p:=⟨w.heap.size+1,3,none⟩) (by simp) (cmFn k)
   by_cases hN:N=1
   ·have hok:Sp.lineOk i x=true:=by
     rw[uh HLO2,hN,decide_eq_true hmem];rfl
    have hfin:=uh HYES hok _ hb4 k hk3 (by rw[uh HWD,uh HONE hN,hky]) (uh HFL1 hmem)
    have hNN:((N:Int) == 1)=true:=by subst hN;rfl
    unfold cmbV
    unfold cmFn at hfin k0 k1 k2 k3 f0 f1 f2 f3 ⊢
    generalize cmNm k=n1 at *
    generalize cmNt k=n2 at *
    generalize (cmF[k]!)=n3 at *
    clear hbw hbw2 hbw3 hr1 hr2 hr3 kf hb2 hb4 hok hN hky hlt2
    go_wp2
    refine bodyPost_ret (v := .tuple #[.agg #[.slice none 0 0,.string n1,.int .i64 n2,.func (.func n3) #[] #[]],.bool true]) ?_ rfl hfin
    simp[results,Tryz.results122,go_sem,k0,k1,k2,k3]
   ·have hok:Sp.lineOk i x=false:=by
     rw[uh HLO2,decide_eq_false hN];rfl
    have hfin:=uh HNO hok _ hb4 (cmNm k) (cmNt k) (cmFn k) ⟨cmF[k]!,by rw[uh HFL1 hmem];rfl⟩
    have hNN:((N:Int) == 1)=false:=beq_eq_false_iff_ne.2 (by omega)
    unfold cmbV
    unfold cmFn at hfin k0 k1 k2 k3 f0 f1 f2 f3 ⊢
    generalize cmNm k=n1 at *
    generalize cmNt k=n2 at *
    generalize (cmF[k]!)=n3 at *
    clear hbw hbw2 hbw3 hr1 hr2 hr3 kf hb2 hb4 hok hN hky hlt2
    go_wp2
    refine bodyPost_ret (v := .tuple #[.agg #[.slice none 0 0,.string n1,.int .i64 n2,.func (.func n3) #[] #[]],.bool false]) ?_ rfl hfin
    simp[results,Tryz.results122,go_sem,k0,k1,k2,k3]
  ·have hbw2:=hbw.trans (hb2.mono hbw.size)
   have hr2:=(hb2.block (w.heap.size+1) (Array.getElem?_eq_some_iff.1 hr1).1).trans hr1
   have hlt2:=(Array.getElem?_eq_some_iff.1 hr2).1
   have hr3:(w2.alloc (.cells #[.string ⟨#[]⟩,.int .i64 0,.nilFunc] 173)).heap[w.heap.size+1]? = _:=(Below.heap_alloc _ _ _ hlt2).trans hr2
   have hbw3:=hbw2.alloc (Nat.le_trans (Nat.le_succ _) (Nat.le_of_lt hlt2)) (.cells #[.string ⟨#[]⟩,.int .i64 0,.nilFunc] 173)
   obtain⟨k0,k1,k2,k3,kf⟩:=blk4 hr3
   have f0:=kf 0
   have f1:=kf 1
   have f2:=kf 2
   have f3:=kf 3
   have hok:Sp.lineOk i x=false:=by
    rw[uh HLO2,decide_eq_false hno,Bool.and_false]
   have hfin:=uh HNO hok _ ((((hbw3.setCell (p:=⟨w.heap.size+1,0,none⟩) (by simp) (.slice none 0 0)).setCell (p:=⟨w.heap.size+1,1,none⟩) (by simp) (.string ⟨#[]⟩)).setCell (p:=⟨w.heap.size+1,2,none⟩) (by simp) (.int .i64 0)).setCell (p:=⟨w.heap.size+1,3,none⟩) (by simp) .nilFunc) ⟨#[]⟩ 0 .nilFunc ⟨0,by rw[uh HFL0 hno];rfl⟩
   unfold noCmb
   clear hbw hbw2 hbw3 hr1 hr2 hr3 kf hb2 hok hlt2
   go_wp2
   refine bodyPost_ret (v := .tuple #[.agg #[.slice none 0 0,.string ⟨#[]⟩,.int .i64 0,.nilFunc],.bool false]) ?_ rfl hfin
   simp[results,Tryz.results122,go_sem,k0,k1,k2,k3]
theorem sh_hd:∀ i,i < 7→Sp.headsL[i]!++[58]=Sp.hd i:=by decide
def shNm (i:Nat):ByteArray:=⟨⟨Sp.headsL[i]!⟩⟩
theorem shNm_size:∀ i,i < 7→(shNm i).size≤10:=by decide
theorem preadLine_any (i:Nat) (hi:i < 7) (x:ByteArray) (b:Nat) (w:World) (hx:x.size≤2000) (hg:SplitOk w) (hW:WordsAt b w) :
  Calls Tryz.prog 122 #[.string x,.agg #[.string (shNm i),.bool (decide (i < 5)),.bool (i == 2)],.slice (some ⟨b,0,none⟩) 25 25] w (RLPost i x w):=by
 by_cases h5:i < 5
 ·rw[decide_eq_true h5]
  exact readLine_code i x (shNm i) b w h5 hx (shNm_size i hi) (sh_hd i hi) hg hW
 ·rw[decide_eq_false h5,show (i == 2)=false from beq_eq_false_iff_ne.2 (by omega)]
  exact readLine_comb i x (shNm i) b w (by omega) hi hx (shNm_size i hi) (sh_hd i hi) hg hW
theorem kcatch_panic (p:Addr) (x:Bool) (u:TypeId) (pv:Value) (older:List PanicEntry) (w:World) (hc:w.cell? p=some (.bool x)) (hz:w.frozen? p=false) :
  CallsD Tryz.prog 124 #[.pointer (some p)] (.panicking ({ v := .iface u pv,recovered:=false } :: older)) w fun e u' w' =>
   e = .returned (.tuple #[])∧u' = .panicking ({ v := .iface u pv,recovered:=true } :: older)∧w'=w.setCell p (.bool false):=by
 refine callsD_of_wpS Tryz.func124 rfl fun c₀ cs hu=>?_
 apply wpS_seq
 apply wpS_region
 simp[wpOpsS,go_sem,recoverD,hu,Tryz.ntmps124,Exit.thenS]
 refine wpS_cond (t:=true) (by simp[Act.eval,Array.replicate]) ?_
 simp only[if_true]
 apply wpS_region
 simp[wpOpsS,go_sem,hc,hz,bodyPostS,results,Tryz.results124]
theorem kcatch_idle (p:Addr) (w:World) :
  CallsD Tryz.prog 124 #[.pointer (some p)] .returning w fun e u' w'=>e = .returned (.tuple #[])∧u' = .returning∧w'=w:=by
 refine callsD_of_wpS Tryz.func124 rfl fun c₀ cs hu=>?_
 apply wpS_seq
 apply wpS_region
 simp[wpOpsS,go_sem,recoverD,hu,Tryz.ntmps124,Exit.thenS]
 refine wpS_cond (t:=false) (by simp[Act.eval,Array.replicate]) ?_
 simp only[Bool.false_eq_true,if_false]
 refine wpS_of_wp (wp_skip ?_)
 cases c₀
 simp_all [bodyPostS,results,Tryz.results124]
def machV (code:Value) (fuel:Int) (dry:Bool:=true):Array Value := #[code,.int .i64 0,.int .i64 fuel,.int .i64 0,.int .i64 0,.int .i64 0,.int .i64 0,.int .i64 0,.int .i64 0,.int .i64 0,.int .i64 0,.int .i64 0,.int .i64 0,.int .i64 0,.int .i64 0,.int .i64 0,.int .i64 0,.int .i64 0,.int .i64 0,.int .i64 0,.int .i64 0,.int .i64 0,.int .i64 0,.int .i64 0,.int .i64 0,.int .i64 0,.int .i64 0,.int .i64 0,.int .i64 0,.slice none 0 0,.bool dry]
theorem Dry.of_mach {w:World} {M n t:Nat} {code:Value} (h:w.heap[M]? = some (.cells (machV code n) t)):Dry w M code 0 n 0 (.slice none 0 0):=by
 refine⟨by simp[World.cell?,h,machV],by simp[World.cell?,h,machV],by simp[World.cell?,h,machV],fun j hj=>?_,fun j hj=>?_,by simp[World.cell?,h,machV],by simp[World.cell?,h,machV],by simp[World.cell?,h,machV],fun j=>by simp[World.frozen?,h]⟩
 ·match j,hj with
  | 0,_=>exact⟨0,by simp[World.cell?,h,machV]⟩
  | 1,_=>exact⟨0,by simp[World.cell?,h,machV]⟩
  | 2,_=>exact⟨0,by simp[World.cell?,h,machV]⟩
  | 3,_=>exact⟨0,by simp[World.cell?,h,machV]⟩
  | 4,_=>exact⟨0,by simp[World.cell?,h,machV]⟩
  | 5,_=>exact⟨0,by simp[World.cell?,h,machV]⟩
  | 6,_=>exact⟨0,by simp[World.cell?,h,machV]⟩
  | 7,_=>exact⟨0,by simp[World.cell?,h,machV]⟩
  | 8,_=>exact⟨0,by simp[World.cell?,h,machV]⟩
 ·match j,hj with
  | 0,_=>exact⟨0,by simp[World.cell?,h,machV]⟩
  | 1,_=>exact⟨0,by simp[World.cell?,h,machV]⟩
  | 2,_=>exact⟨0,by simp[World.cell?,h,machV]⟩
  | 3,_=>exact⟨0,by simp[World.cell?,h,machV]⟩
  | 4,_=>exact⟨0,by simp[World.cell?,h,machV]⟩
  | 5,_=>exact⟨0,by simp[World.cell?,h,machV]⟩
  | 6,_=>exact⟨0,by simp[World.cell?,h,machV]⟩
  | 7,_=>exact⟨0,by simp[World.cell?,h,machV]⟩
  | 8,_=>exact⟨0,by simp[World.cell?,h,machV]⟩
  | 9,_=>exact⟨0,by simp[World.cell?,h,machV]⟩
  | 10,_=>exact⟨0,by simp[World.cell?,h,machV]⟩
  | 11,_=>exact⟨0,by simp[World.cell?,h,machV]⟩
  | 12,_=>exact⟨0,by simp[World.cell?,h,machV]⟩
  | 13,_=>exact⟨0,by simp[World.cell?,h,machV]⟩
  | 14,_=>exact⟨0,by simp[World.cell?,h,machV]⟩
  | 15,_=>exact⟨0,by simp[World.cell?,h,machV]⟩
  | n+16,hj=>exact absurd hj (by omega)
theorem below_setRow {B:Nat} {w w':World} (h:Below B w w') {g:Nat} (hg:B≤g) (cs:Array Value):Below B w (w'.setRow g cs):=by
 refine⟨h.1,h.2,h.3,?_,fun k hk=>?_⟩
 ·have:=h.size;simp[World.setRow];exact this
 ·rw[← h.block k hk];simp only[World.setRow,Array.getElem?_modify];rw[if_neg (by omega)]
structure CodeIn (w:World) (g:Nat) (L:List (List UInt8)) (u:TypeId) (p:Value):Prop where
 row:CodeRow w w.heap.size g L
 len:L.length≤4000
 pos:0 < L.length
 fm:Sp.fmd true L 0=true
 err:w.cell? ⟨5,0,none⟩=some (.iface u p)
 lt:5 < w.heap.size
theorem keeps_any (L:List (List UInt8)) (g cap:Nat) (u:TypeId) (p:Value) (w:World) (h:CodeIn w g L u p) :
  Calls Tryz.prog 69 #[.slice (some ⟨g,0,none⟩) L.length cap] w fun e w'=>e = .returned (.bool (Sp.keeps L))∧Below w.heap.size w w':=by
 have hmf:∀ (fn:Go.Fn) (first cap:Array Value) (w:World),(Instr.makeFunc fn first cap).run Tryz.prog w = .ok (.func fn first cap) w:=fun _ _ _ _=>rfl
 have H:=hde h
 clear h
 obtain⟨kp,HKP⟩:∃ kp,Hid (Sp.keeps L=kp):=⟨_,rfl⟩
 rw[uh HKP]
 go_enter_defers Tryz.func69,Tryz.ntmps69
 iterate 38 (first | go_values | go_skip | go_guarded | go_step | go_upon | (simp only[Int.not_lt,Int.not_le] at *;go_simp))
 refine wp_store_row 259 (.tmp 3) (.tmp 8) rfl (w.heap.size+1) (machV (.slice (some ⟨g,0,none⟩) L.length cap) L.length) rfl rfl 259 (machV (.slice none 0 0) 0 false) ?h1 (by kernel_rfl) rfl (by simp[machV,Value.oneCell']) ?h2
 case h1 =>
  rw[← World.size_alloc w (.cells #[.bool false] 4)]
  exact heap_alloc_new _ _
 case h2 =>
 have hb:Below w.heap.size w (((w.alloc (.cells #[.bool false] 4)).alloc (.cells (machV (.slice none 0 0) 0 false) 259)).setRow (w.heap.size+1) (machV (.slice (some ⟨g,0,none⟩) L.length cap) L.length)):=below_setRow (((Below.refl _ w).alloc nlr _).alloc (by simp) _) (by omega) _
 have hM:(((w.alloc (.cells #[.bool false] 4)).alloc (.cells (machV (.slice none 0 0) 0 false) 259)).setRow (w.heap.size+1) (machV (.slice (some ⟨g,0,none⟩) L.length cap) L.length)).heap[w.heap.size+1]? = some (.cells (machV (.slice (some ⟨g,0,none⟩) L.length cap) L.length) 259 (0,0)):=by
  refine setRow_heap _ _ (machV (.slice none 0 0) 0 false) _ _ _ ?_
  rw[← World.size_alloc w (.cells #[.bool false] 4)]
  exact heap_alloc_new _ _
 have hK:(((w.alloc (.cells #[.bool false] 4)).alloc (.cells (machV (.slice none 0 0) 0 false) 259)).setRow (w.heap.size+1) (machV (.slice (some ⟨g,0,none⟩) L.length cap) L.length)).heap[w.heap.size]? = some (.cells #[.bool false] 4 (0,0)):=by
  simp only[World.setRow,Array.getElem?_modify]
  rw[if_neg (by omega),Below.heap_alloc _ _ _ (by simp)]
  exact heap_alloc_new w _
 generalize hW:World.setRow _ _ _=W
 replace hb:Below w.heap.size w W:=by rw[← hW];exact hb
 replace hM:W.heap[w.heap.size+1]? = some (.cells (machV (.slice (some ⟨g,0,none⟩) L.length cap) L.length) 259 (0,0)):=by rw[← hW];exact hM
 replace hK:W.heap[w.heap.size]? = some (.cells #[.bool false] 4 (0,0)):=by rw[← hW];exact hK
 clear hW
 have hlt:w.heap.size+1 < W.heap.size:=(Array.getElem?_eq_some_iff.1 hM).1
 have hrun:=run_any L (w.heap.size+1) g cap u p W (uh H).len ⟨_,Dry.of_mach hM,World.ownsRow_nil _ _ _ _⟩ (by
  obtain⟨hg,hr⟩:=(uh H).row
  refine⟨by omega,fun i hi=>?_⟩
  obtain⟨fv,h1,h2⟩:=hr i hi
  refine⟨fv,(hb.cell (p:=⟨g,i * 2,none⟩) hg).trans h1,?_⟩
  rcases h2 with ⟨B,n,q1,q2,q3,q4⟩ | h2
  ·exact Or.inl ⟨B,n,by omega,q2,(hb.block B q1).trans q3,q4⟩
  ·exact Or.inr h2) (uh H).fm (by have:=(uh H).lt;omega) ((hb.cell (p:=⟨5,0,none⟩) (uh H).lt).trans (uh H).err)
 have hks:=Sp.keeps_drun (uh H).fm
 go_wp2_with fail
 refine hrun.mono ?_
 clear hrun
 rcases hks with ⟨hq,hdr⟩ | ⟨hq,hdr | ⟨hh,hne,hdr⟩⟩
 ·obtain rfl:true=kp:=hq.symm.trans (uh HKP)
  rw[hdr]
  rintro e w1 ⟨hk,rfl,a,f,x,hd,_⟩
  have e1:=hd.hh
  have k1:w1.heap[w.heap.size]? = _:=(hk.block w.heap.size (by omega)).trans hK
  have e2:w1.cell? ⟨w.heap.size,0,none⟩=some (.bool false):=by simp[World.cell?,k1]
  have e3:w1.frozen? ⟨w.heap.size,0,none⟩=false:=by simp[World.frozen?,k1]
  have hbw:Below w.heap.size w w1:=hb.trans (hk.mono (by omega))
  clear hd hk k1 hb hM hK hlt
  go_wp2
  refine leaves_cons (f:=124) (args := #[.pointer (some ⟨w.heap.size,0,none⟩)]) (by simp) (by simp[go_sem]) ?_
  refine(kcatch_idle ⟨w.heap.size,0,none⟩ _).mono ?_
  rintro e u' w'' ⟨rfl,rfl,rfl⟩
  have q1:=World.cell?_setCell_same w1 ⟨w.heap.size,0,none⟩ (.bool true) e2
  simp[Leaves,settle,results,Tryz.results69,go_sem,q1]
  exact hbw.setCell nlr _
 ·obtain rfl:false=kp:=hq.symm.trans (uh HKP)
  rw[hdr]
  rintro e w1 ⟨hk,rfl⟩
  have k1:w1.heap[w.heap.size]? = _:=(hk.block w.heap.size (by omega)).trans hK
  have e2:w1.cell? ⟨w.heap.size,0,none⟩=some (.bool false):=by simp[World.cell?,k1]
  have e3:w1.frozen? ⟨w.heap.size,0,none⟩=false:=by simp[World.frozen?,k1]
  have hbw:Below w.heap.size w w1:=hb.trans (hk.mono (by omega))
  clear hk k1 hb hM hK hlt
  go_wp2
  refine leaves_cons (f:=124) (args := #[.pointer (some ⟨w.heap.size,0,none⟩)]) (by simp) (by simp[go_sem]) ?_
  refine(kcatch_panic ⟨w.heap.size,0,none⟩ false u p [] _ e2 e3).mono ?_
  rintro e u' w'' ⟨rfl,rfl,rfl⟩
  have q1:=World.cell?_setCell_same w1 ⟨w.heap.size,0,none⟩ (.bool false) e2
  simp[Leaves,settle,results,Tryz.results69,go_sem,q1]
  exact hbw.setCell nlr _
 ·obtain rfl:false=kp:=hq.symm.trans (uh HKP)
  rw[hdr]
  rintro e w1 ⟨hk,rfl,a,f,x,hd,_⟩
  have e1:=hd.hh
  have k1:w1.heap[w.heap.size]? = _:=(hk.block w.heap.size (by omega)).trans hK
  have e2:w1.cell? ⟨w.heap.size,0,none⟩=some (.bool false):=by simp[World.cell?,k1]
  have e3:w1.frozen? ⟨w.heap.size,0,none⟩=false:=by simp[World.frozen?,k1]
  have hbw:Below w.heap.size w w1:=hb.trans (hk.mono (by omega))
  have hne2:((hh:Int) == 1)=false:=beq_eq_false_iff_ne.2 (by omega)
  clear hd hk k1 hb hM hK hlt
  go_wp2
  refine leaves_cons (f:=124) (args := #[.pointer (some ⟨w.heap.size,0,none⟩)]) (by simp) (by simp[go_sem]) ?_
  refine(kcatch_idle ⟨w.heap.size,0,none⟩ _).mono ?_
  rintro e u' w'' ⟨rfl,rfl,rfl⟩
  have q1:=World.cell?_setCell_same w1 ⟨w.heap.size,0,none⟩ (.bool false) e2
  simp[Leaves,settle,results,Tryz.results69,go_sem,q1]
  exact hbw.setCell nlr _
end Go.Proofs.YteflnddphpjahaaGreatDoor
