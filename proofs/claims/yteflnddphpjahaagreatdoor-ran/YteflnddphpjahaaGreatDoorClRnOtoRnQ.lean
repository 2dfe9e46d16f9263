import Derived.Test.YteflnddphpjahaaGreatDoorClRnLtoCardD
import Derived.Test.YteflnddphpjahaaGreatDoorClRrAtoCqT
import Derived.Test.YteflnddphpjahaaGreatDoorClSameAtoLineD
import Derived.LaidEql
set_option linter.unusedVariables false
set_option linter.unusedSimpArgs false
set_option maxRecDepth 100000
set_option maxHeartbeats 16000000
namespace Go.Proofs.YteflnddphpjahaaGreatDoor
open Go.RowKit
theorem own_low {w:World} {B B' e size n:Nat} {v:Value} {xs:List Value} (h:w.ownsRow B' e size v n xs) (hB:B≤B'):w.ownsRow B e size v n xs:=by
 obtain⟨h1,h2⟩:=h
 refine⟨h1,?_⟩
 rcases h2 with h2 | ⟨g,cap,cur,hv,hB',hg,r⟩
 ·exact .inl h2
 ·exact .inr ⟨g,cap,cur,hv,Nat.le_trans hB hB',hg,r⟩
structure JoinFn (F:Nat) (k:List UInt8):Prop where
 enter:∀ (args:Array Value) (w:World),(callFunc F args).run Tryz.prog w = .ok (.enter F args) w
 calls:∀ (a b:Int) (w:World),Calls Tryz.prog F #[.int .i64 a,.int .i64 b] w fun e w'=>e = .returned (.int .i64 (Sp.joinK k a b))∧w'=w
theorem join_min:JoinFn 301 [109,105,110]:=by
 refine⟨cfe Tryz.func301 (by kernel_rfl) (by kernel_rfl),fun a b w=>?_⟩
 have h:Sp.joinK [109,105,110] a b=min a b:=by unfold Sp.joinK;simp only[List.cons.injEq,reduceCtorEq,and_false,if_false];simp;omega
 rw[h]
 go_enter Tryz.func301,Tryz.ntmps301
 go_wp2
 go_ret
 exact⟨rfl,rfl⟩
theorem join_max:JoinFn 302 [109,97,120]:=by
 refine⟨cfe Tryz.func302 (by kernel_rfl) (by kernel_rfl),fun a b w=>?_⟩
 have h:Sp.joinK [109,97,120] a b=max a b:=by unfold Sp.joinK;simp only[List.cons.injEq,reduceCtorEq,and_false,if_false];simp;omega
 rw[h]
 go_enter Tryz.func302,Tryz.ntmps302
 go_wp2
 go_ret
 exact⟨rfl,rfl⟩
theorem join_sum:JoinFn 303 [115,117,109]:=by
 refine⟨cfe Tryz.func303 (by kernel_rfl) (by kernel_rfl),fun a b w=>?_⟩
 have h:Sp.joinK [115,117,109] a b=wrap64 (a+b):=by unfold Sp.joinK;simp
 rw[h]
 go_enter Tryz.func303,Tryz.ntmps303
 go_wp2
 go_ret
 exact⟨rfl,rfl⟩
theorem join_of:(k:Nat)→k < 3→JoinFn (cmF[k]!) (Sp.combsL[k]!)
 | 0,_=>join_min
 | 1,_=>join_max
 | 2,_=>join_sum
 | n+3,h=>absurd h (by omega)
theorem none_of:(k:Nat)→k < 3→cmNt k=Sp.noneK (Sp.combsL[k]!)
 | 0,_=>rfl
 | 1,_=>rfl
 | 2,_=>rfl
 | n+3,h=>absurd h (by omega)
def CombAt (w:World) (B o:Nat) (k:List UInt8):Prop := ∃ nm F,w.cell? ⟨B,o,none⟩=some (.string nm)∧w.cell? ⟨B,o+1,none⟩=some (.int .i64 (Sp.noneK k))∧w.cell? ⟨B,o+2,none⟩=some (.func (.func F) #[] #[])∧JoinFn F k
structure PrgAt (w:World) (B:Nat) (P:Sp.Pg):Prop where
 lt:B < w.heap.size
 code:∀ i,i < 5→∃ g cap,w.cell? ⟨B,i * 4,none⟩=some (.slice (some ⟨g,0,none⟩) (P.code i).length cap)∧CodeW w g (P.code i)
 by':CombAt w B 21 P.by'
 al:CombAt w B 25 P.al
theorem CombAt.below {w w':World} {B o:Nat} {k:List UInt8} (h:CombAt w B o k) (hB:B < w.heap.size) (hb:Below w.heap.size w w'):CombAt w' B o k:=by
 obtain⟨nm,F,h1,h2,h3,h4⟩:=h
 exact⟨nm,F,(hb.cell (p:=⟨B,o,none⟩) hB).trans h1,(hb.cell (p:=⟨B,o+1,none⟩) hB).trans h2,(hb.cell (p:=⟨B,o+2,none⟩) hB).trans h3,h4⟩
theorem PrgAt.below {w w':World} {B:Nat} {P:Sp.Pg} (h:PrgAt w B P) (hb:Below w.heap.size w w'):PrgAt w' B P:=by
 refine⟨Nat.lt_of_lt_of_le h.lt hb.size,fun i hi=>?_,h.by'.below h.lt hb,h.al.below h.lt hb⟩
 obtain⟨g,cap,h1,h2⟩:=h.code i hi
 exact⟨g,cap,(hb.cell (p:=⟨B,i * 4,none⟩) h.lt).trans h1,h2.below hb⟩
def CombPost (k:List UInt8) (w:World) (e:Ending) (w':World):Prop := ∃ nm F,e = .returned (.agg #[.string nm,.int .i64 (Sp.noneK k),.func (.func F) #[] #[]])∧JoinFn F k∧Below w.heap.size w w'
theorem by_any (B:Nat) (P:Sp.Pg) (w:World) (h:PrgAt w B P):Calls Tryz.prog 75 #[.pointer (some ⟨B,0,none⟩)] w (CombPost P.by' w):=by
 obtain⟨nm,F,h1,h2,h3,h4⟩:=h.by'
 have hlt:=h.lt
 have H4:=hde h4
 obtain⟨q,HQ⟩:∃ q,Hid (Sp.noneK P.by'=q):=⟨_,rfl⟩
 rw[uh HQ] at h2
 clear h4 h
 have hb:Below w.heap.size w (w.alloc (.cells #[.string ⟨#[]⟩,.int .i64 0,.nilFunc] 173)):=(Below.refl _ _).alloc nlr _
 go_enter Tryz.func75,Tryz.ntmps75
 go_wp2
 refine bodyPost_ret (v := .agg #[.string nm,.int .i64 q,.func (.func F) #[] #[]]) (by simp[results,Tryz.results75,go_sem]) rfl ⟨nm,F,by rw[uh HQ],uh H4,?_⟩
 exact(Below.refl _ _).alloc nlr _
theorem all_any (B:Nat) (P:Sp.Pg) (w:World) (h:PrgAt w B P):Calls Tryz.prog 74 #[.pointer (some ⟨B,0,none⟩)] w (CombPost P.al w):=by
 obtain⟨nm,F,h1,h2,h3,h4⟩:=h.al
 have hlt:=h.lt
 have H4:=hde h4
 obtain⟨q,HQ⟩:∃ q,Hid (Sp.noneK P.al=q):=⟨_,rfl⟩
 rw[uh HQ] at h2
 clear h4 h
 have hb:Below w.heap.size w (w.alloc (.cells #[.string ⟨#[]⟩,.int .i64 0,.nilFunc] 173)):=(Below.refl _ _).alloc nlr _
 go_enter Tryz.func74,Tryz.ntmps74
 go_wp2
 refine bodyPost_ret (v := .agg #[.string nm,.int .i64 q,.func (.func F) #[] #[]]) (by simp[results,Tryz.results74,go_sem]) rfl ⟨nm,F,by rw[uh HQ],uh H4,?_⟩
 exact(Below.refl _ _).alloc nlr _
def sightA (E:Sp.Ev):Array Value := #[.int .i64 E.value,.int .i64 E.inn,.int .i64 E.got,.int .i64 E.step,.int .i64 E.id,.int .i64 E.deg,.int .i64 E.all,.int .i64 E.old,.int .i64 E.weight]
structure SightAt (w:World) (S:Nat) (E:Sp.Ev):Prop where
 c0:w.cell? ⟨S,0,none⟩=some (.int .i64 E.value)
 c1:w.cell? ⟨S,1,none⟩=some (.int .i64 E.inn)
 c2:w.cell? ⟨S,2,none⟩=some (.int .i64 E.got)
 c3:w.cell? ⟨S,3,none⟩=some (.int .i64 E.step)
 c4:w.cell? ⟨S,4,none⟩=some (.int .i64 E.id)
 c5:w.cell? ⟨S,5,none⟩=some (.int .i64 E.deg)
 c6:w.cell? ⟨S,6,none⟩=some (.int .i64 E.all)
 c7:w.cell? ⟨S,7,none⟩=some (.int .i64 E.old)
 c8:w.cell? ⟨S,8,none⟩=some (.int .i64 E.weight)
 fz:∀ j,w.frozen? ⟨S,j,none⟩=false
theorem SightAt.lt {w:World} {S:Nat} {E:Sp.Ev} (h:SightAt w S E):S < w.heap.size:=World.block_lt_of_cell? w _ h.c0
theorem SightAt.far {w w':World} {S:Nat} {E:Sp.Ev} (h:SightAt w S E) (hc:∀ j,w'.cell? ⟨S,j,none⟩=w.cell? ⟨S,j,none⟩) (hf:∀ j,w'.frozen? ⟨S,j,none⟩=w.frozen? ⟨S,j,none⟩):SightAt w' S E :=
 ⟨(hc _).trans h.c0,(hc _).trans h.c1,(hc _).trans h.c2,(hc _).trans h.c3,(hc _).trans h.c4,(hc _).trans h.c5,(hc _).trans h.c6,(hc _).trans h.c7,(hc _).trans h.c8,fun j=>(hf j).trans (h.fz j)⟩
theorem SightAt.below {w w':World} {S:Nat} {E:Sp.Ev} (h:SightAt w S E) (hb:Below w.heap.size w w'):SightAt w' S E :=
 h.far (fun j=>hb.cell (p:=⟨S,j,none⟩) h.lt) (fun j=>hb.frozen (p:=⟨S,j,none⟩) h.lt)
theorem SightAt.new {w:World} {S t:Nat} {E:Sp.Ev} (h:w.heap[S]? = some (.cells (sightA E) t)):SightAt w S E :=
 ⟨by simp[World.cell?,h,sightA],by simp[World.cell?,h,sightA],by simp[World.cell?,h,sightA],by simp[World.cell?,h,sightA],by simp[World.cell?,h,sightA],by simp[World.cell?,h,sightA],by simp[World.cell?,h,sightA],by simp[World.cell?,h,sightA],by simp[World.cell?,h,sightA],fun j=>by simp[World.frozen?,h]⟩
theorem SightAt.setW {w:World} {S:Nat} {E:Sp.Ev} (h:SightAt w S E) (v:Int):SightAt (w.setCell ⟨S,8,none⟩ (.int .i64 v)) S (E.setW v):=by
 have ho:∀ j,j≠8→(w.setCell ⟨S,8,none⟩ (.int .i64 v)).cell? ⟨S,j,none⟩=w.cell? ⟨S,j,none⟩:=fun j hj=>cso (by omega)
 exact⟨(ho _ (by omega)).trans h.c0,(ho _ (by omega)).trans h.c1,(ho _ (by omega)).trans h.c2,(ho _ (by omega)).trans h.c3,(ho _ (by omega)).trans h.c4,(ho _ (by omega)).trans h.c5,(ho _ (by omega)).trans h.c6,(ho _ (by omega)).trans h.c7,World.cell?_setCell_same _ _ _ h.c8,fun j=>(World.frozen?_setCell _ _ _ _).trans (h.fz j)⟩
def MsPost (o:Option (List (Nat × Int))) (z f:Addr) (w:World) (e:Ending) (w':World):Prop :=
 Below w.heap.size w w'∧match o with
  | some l=>∃ v,e = .returned v∧w'.ownsRow w.heap.size 2 1 v l.length (l.map fun m=>Value.int .i64 m.2)
  | none=>Gave z f e
structure MsInv (L:List (List UInt8)) (E:Sp.Ev) (Es:List Sp.Ed) (w wr:World) (k:Nat) (l:List (Nat × Int)) (v:Value):Prop where
 ms:Sp.msgs L E (Es.take k)=some l
 si:∃ q,SightAt wr w.heap.size (E.setW q)
 row:wr.ownsRow (w.heap.size+1) 2 1 v l.length (l.map fun m=>Value.int .i64 m.2)
 bel:Below w.heap.size w wr
theorem msgs_take {L:List (List UInt8)} {E:Sp.Ev} {Es:List Sp.Ed} {k:Nat} (hk:k < Es.length) {l:List (Nat × Int)} (h:Sp.msgs L E (Es.take k)=some l):Sp.msgs L E (Es.take (k+1))=match Sp.ev L (E.setW Es[k].n) with
  | none=>none
  | some m=>some (l++[(Es[k].to,m)]):=by
 rw[List.take_succ_eq_append_getElem hk,Sp.msgs_append,h]
 simp only[Sp.msgs]
 cases Sp.ev L (E.setW Es[k].n) <;> rfl
theorem msgs_none {L:List (List UInt8)} {E:Sp.Ev} {Es:List Sp.Ed} {k:Nat} (h:Sp.msgs L E (Es.take k)=none):Sp.msgs L E Es=none:=by
 rw[← List.take_append_drop k Es,Sp.msgs_append,h]
theorem gave_panic {z f:Addr} {e:Ending} (h:Gave z f e):∃ ch,e = .panicked ch:=by
 rcases h with rfl | rfl <;> exact⟨_,rfl⟩
theorem messages_any (B:Nat) (P:Sp.Pg) (E:Sp.Ev) (Es:List Sp.Ed) (pe:Option Addr) (cap:Nat) (z f:Addr) (w:World) (hp:PrgAt w B P) (he:Errs w z f) (hE:Sp.EvOk E) (hes:EdgesAt w pe Es) (hn:∀ x ∈ Es,Sp.i64 x.n) (hl:Es.length≤1000) :
  Calls Tryz.prog 128 #[.pointer (some ⟨B,0,none⟩),sightV E,.slice pe Es.length cap] w (MsPost (Sp.msgs (P.code 2) E Es) z f w):=by
 obtain⟨t2,ht2,hva,hvb,hvc⟩:=info_parts Tryz.info_i64
 obtain⟨g,ccap,hc8,hcw⟩:=hp.code 2 (by omega)
 have hBl:=hp.lt
 have HW:=hde (And.intro hcw (And.intro he (And.intro hE hn)))
 have HES:=hde hes
 generalize hO:MsPost (Sp.msgs (P.code 2) E Es) z f w=O
 replace hO:=hde hO
 generalize hL:P.code 2=L at *
 replace hL:=hde hL
 clear hp hcw he hE hes hn
 have HI0:Hid (MsInv L E Es w (w.alloc (.cells (sightA E) 184)) 0 [] (.slice none 0 0)):=
  ⟨rfl,⟨E.weight,SightAt.new (E:=E) (heap_alloc_new w _)⟩,World.ownsRow_nil _ _ _ _,(Below.refl _ _).alloc nlr _⟩
 unfold sightV
 go_enter Tryz.func128,Tryz.ntmps128
 go_wp2_with fail
 go_loopw [7,12] (fun vv i wr=>∃ (k:Nat) (l:List (Nat × Int)) (v:Value),k≤Es.length∧i = .int .i64 k∧vv=v∧Hid (MsInv L E Es w wr k l v)) (fun _ i _=>Es.length - (intOf i).toNat)
 case atStart=>exact⟨0,[],_,Nat.zero_le _,rfl,rfl,HI0⟩
 case round =>
  clear HI0
  obtain⟨k,l,v,hk,rfl,hvv,HI⟩:=hrel
  obtain rfl:=hvv.symm
  clear hvv
  by_cases hlt:k < Es.length
  ·have hltz:(k:Int) < (Es.length:Int):=by omega
   have g0:(0:Int)≤(k:Int):=Int.natCast_nonneg _
   have hbw:=(uh HI).bel
   obtain⟨ge,rfl,hge,d0,d1,d2⟩:=(uh HES) k hlt
   have c0:wr.cell? ⟨ge,k * 3,none⟩=some (.int .i64 (Es[k].frm:Int)):=(hbw.cell (p:=⟨ge,k * 3,none⟩) hge).trans d0
   have c1:wr.cell? ⟨ge,k * 3+1,none⟩=some (.int .i64 (Es[k].to:Int)):=(hbw.cell (p:=⟨ge,k * 3+1,none⟩) hge).trans d1
   have c2:wr.cell? ⟨ge,k * 3+2,none⟩=some (.int .i64 Es[k].n):=(hbw.cell (p:=⟨ge,k * 3+2,none⟩) hge).trans d2
   obtain⟨q,hsi⟩:=(uh HI).si
   have s8:=hsi.c8
   have sf:=hsi.fz 8
   have hS:=hsi.lt
   have hll:l.length=k:=by have:=Sp.msgs_len (uh HI).ms;rw[List.length_take] at this;omega
   obtain⟨x,hx⟩:∃ x,Es[k]=x:=⟨_,rfl⟩
   rw[hx] at c0 c1 c2
   have HX:=hde hx
   clear d0 d1 d2 hx
   have hW1:Hid (∀ W,W=(wr.setCell ⟨w.heap.size,8,none⟩ (.int .i64 x.n)).alloc (.cells #[.int .i64 (x.frm:Int),.int .i64 (x.to:Int),.int .i64 x.n] 67)→SightAt W w.heap.size (E.setW x.n)∧W.ownsRow (w.heap.size+1) 2 1 v k (l.map fun m=>Value.int .i64 m.2)∧Below w.heap.size w W):=by
    show ∀ W,_
    rintro W rfl
    have hA:Below (wr.setCell ⟨w.heap.size,8,none⟩ (.int .i64 x.n)).heap.size (wr.setCell ⟨w.heap.size,8,none⟩ (.int .i64 x.n)) ((wr.setCell ⟨w.heap.size,8,none⟩ (.int .i64 x.n)).alloc (.cells #[.int .i64 (x.frm:Int),.int .i64 (x.to:Int),.int .i64 x.n] 67)):=(Below.refl _ _).alloc nlr _
    have hb1:Below w.heap.size w (wr.setCell ⟨w.heap.size,8,none⟩ (.int .i64 x.n)):=hbw.setCell (p:=⟨w.heap.size,8,none⟩) nlr _
    refine⟨(hsi.setW x.n).below hA,?_,hb1.trans (hA.mono hb1.size)⟩
    have:=(uh HI).row
    rw[hll] at this
    exact obl (((Only.refl _ _).set _ _).own this) hA
   go_upto_region 6 with fail
   generalize hW:World.alloc _ _=W
   obtain⟨hs,hr,hbW⟩:=uh hW1 W hW.symm
   clear hW hW1 hsi c0 c1 c2 s8 sf
   have y0:=hs.c0
   have y1:=hs.c1
   have y2:=hs.c2
   have y3:=hs.c3
   have y4:=hs.c4
   have y5:=hs.c5
   have y6:=hs.c6
   have y7:=hs.c7
   have y8:=hs.c8
   have hcW:=(hbW.cell (p:=⟨B,8,none⟩) hBl).trans hc8
   have hSW:=hs.lt
   have hv8:=uh HW
   have hxn:Sp.i64 x.n:=by rw[← uh HX];exact hv8.2.2.2 _ (List.getElem_mem hlt)
   have hbd:Below W.heap.size W W.drew:=(Below.refl _ _).drew
   have hcw2:CodeW W.drew g L:=(hv8.1.below (hbW)).below hbd
   have her2:Errs W.drew z f:=(hv8.2.1.below hbW).below hbd
   have HA:Hid (Calls Tryz.prog 127 #[.slice (some ⟨g,0,none⟩) L.length ccap,sightV (E.setW x.n)] W.drew (APost (Sp.ev L (E.setW x.n)) z f W.drew)):=answer_any L (E.setW x.n) (hv8.2.2.1.setW hxn) g ccap z f W.drew hcw2 her2
   have HEN:Hid (∀ (args:Array Value) (w:World),(callFunc 127 args).run Tryz.prog w = .ok (.enter 127 args) w):=cfe Tryz.func127 (by kernel_rfl) (by kernel_rfl)
   clear hcw2 her2 hv8
   have hmt:=msgs_take hlt (uh HI).ms
   rw[uh HX] at hmt
   cases hev:Sp.ev L (E.setW x.n) with
   | none =>
    rw[hev] at HA hmt
    have HF:Hid (∀ e w',Below W.heap.size W.drew w'→Gave z f e→O e w'):=by
     show ∀ e w',_
     intro e w' hb' hgv
     rw[← uh hO,msgs_none hmt]
     exact⟨hbW.trans ((hbd.trans hb').mono hbW.size),hgv⟩
    clear hmt hev hs hr hbW hbd
    go_region_with (refine(uh HA).mono ?_;rintro e w1 ⟨hb1,hgv⟩;obtain⟨ch,rfl⟩:=gave_panic hgv;refine dead_end Tryz.prog w1 ⟨rfl,uh HF _ w1 (hb1.mono nlr) hgv⟩ ?_)
    all_goals trivial
   | some m =>
    rw[hev] at HA hmt
    have HN:Hid (∀ w' v',Below w.heap.size w w'→SightAt w' w.heap.size (E.setW x.n)→w'.ownsRow (w.heap.size+1) 2 1 v' (k+1) ((l.map fun m=>Value.int .i64 m.2)++[.int .i64 m])→MsInv L E Es w w' (k+1) (l++[(x.to,m)]) v'):=by
     show ∀ w' v',_
     intro w' v' hb' hs' hr'
     refine⟨hmt,⟨_,hs'⟩,?_,hb'⟩
     rw[List.length_append,hll]
     simpa using hr'
    clear hmt hev
    go_region_law (first
     | (refine step_call (by rfl) _ _ _ (by rfl) 127 (by rfl) _ (by rfl) (uh HEN) (uh HA) ?_;rintro e w1 ⟨hb1,rfl⟩;dsimp only)
     | (refine step_append_lies _ (by rfl) _ _ _ (by rfl) (w.heap.size+1) 2 t2 _ 1 8 Tryz.underlying42 ht2 hva hvb hvc rfl (by omega) v _ _ (by rfl) ((obl hr (hbd.trans (hb1.mono nlr))).alloc _) ⟨w1.heap.size,0,none⟩ 1 1 [.int .i64 m] (by rfl) (by rfl) (World.news_of_block (cs := #[.int .i64 m]) (t:=2) (fr:=(0,0)) (heap_alloc_new w1 _)) (by simp[Value.oneCell']) (by omega) (by unfold maxLen;omega) (by omega) (by have:=hb1.size;simp at this ⊢;omega) (w1.heap.size+1) (by simp) ?_;intro gg cp w2 hown1 hgrow hat hlt1))
    all_goals
     have hbW1:Below w.heap.size w w1:=hbW.trans ((hbd.trans (hb1.mono nlr)).mono hbW.size)
     have hs1:SightAt w1 w.heap.size (E.setW x.n):=hs.below (hbd.trans (hb1.mono nlr))
     have hr1:=obl hr (hbd.trans (hb1.mono nlr))
     have hne:some w.heap.size≠v.ownBlock:=fun e=>by have:=(hr.lt _ e.symm).1;omega
     have hA1:Below w1.heap.size w1 (w1.alloc (.cells #[.int .i64 m] 2)):=(Below.refl _ _).alloc nlr _
     have hs2:SightAt w2 w.heap.size (E.setW x.n):=(hs1.below hA1).far (fun j=>hgrow.cell_far ⟨w.heap.size,j,none⟩ (by have:=hs1.lt;simp;omega) hne) (fun j=>hgrow.frozen_far ⟨w.heap.size,j,none⟩ (by have:=hs1.lt;simp;omega) hne)
     have hb2:Below w.heap.size w w2:=(hbW1.alloc hbW1.size _).grown hgrow (by have:=hbW1.size;simp;omega) (fun j hj=>by have:=(hr.lt j hj).1;omega)
     have HI2:=hde (uh HN w2 _ hb2 hs2 hown1)
     clear hbW1 hs1 hr1 hne hA1 hs2 hb2 hown1 hgrow hat hlt1 hb1 hs hr hbW hbd
     go_wp2
     go_roundw
     case rel=>exact⟨k+1,_,_,by omega,by go_num,rfl,HI2⟩
     case measure=>simp[intOf];omega
  ·have hltz:¬ (k:Int) < (Es.length:Int):=by omega
   obtain rfl:k=Es.length:=by omega
   have HF:Hid (O (.returned v) wr):=by
    show O _ _
    have hI:=uh HI
    have hms:=hI.ms
    rw[List.take_length] at hms
    rw[← uh hO,hms]
    exact⟨hI.bel,v,rfl,own_low hI.row (Nat.le_succ _)⟩
   go_wp2
   exact uh HF
theorem ptr_info:∃ i j,Tryz.prog.info? 484=some i∧i.comparable=true∧Tryz.prog.info? 509=some j∧j.size≠0:=by
 refine⟨_,_,rfl,by kernel_rfl,rfl,?_⟩
 exact of_decide_eq_true (by kernel_rfl)
theorem eql_same (a:Addr) (w:World):(binOp .eql 20 (.iface 484 (.pointer (some a))) (.iface 484 (.pointer (some a)))).run Tryz.prog w = .ok (.bool true) w:=by
 obtain⟨i,j,h1,h2,h3,h4⟩:=ptr_info
 exact run_eql_iface_ptr_same w a Tryz.underlying20 Tryz.underlying484 h1 h2 h3
theorem eql_other {z f:Addr} {w:World} (h:Errs w z f):(binOp .eql 20 (.iface 484 (.pointer (some f))) (.iface 484 (.pointer (some z)))).run Tryz.prog w = .ok (.bool false) w:=by
 obtain⟨i,j,k1,k2,k3,k4⟩:=ptr_info
 obtain⟨c,t,h1⟩:=h.bz
 obtain⟨c2,t2,h2⟩:=h.bf
 exact run_eql_iface_ptr_other w Tryz.underlying20 Tryz.underlying484 k1 k2 k3 k4 (fun e=>h.ne e.symm) h2 h1
theorem eql_nil (tp:TypeId) (v:Value) (w:World):(binOp .eql 20 (.iface tp v) .nilIface).run Tryz.prog w = .ok (.bool false) w:=by
 have h:∀ d:Nat,(Op.equalIn (d+1) 20 (.iface tp v) .nilIface).run Tryz.prog w = .ok false w:=fun d=>by simp[Op.equalIn,run_underlying Tryz.underlying20]
 simp only[binOp]
 simp[Op.equal,Op.maxDepth,h 9999]
theorem tcatch_idle (p q:Addr) (w:World) :
  CallsD Tryz.prog 126 #[.pointer (some p),.pointer (some q)] .returning w fun e u' w'=>e = .returned (.tuple #[])∧u' = .returning∧w'=w:=by
 refine callsD_of_wpS Tryz.func126 rfl fun c₀ cs hu=>?_
 apply wpS_seq
 apply wpS_region
 simp[wpOpsS,go_sem,recoverD,hu,Tryz.ntmps126,Exit.thenS]
 refine wpS_of_wp ?_
 go_wp2
 cases c₀
 simp_all [bodyPostS,results,Tryz.results126]
def caught (w:World) (T K:Nat):World:=((((w.setCell ⟨T,0,none⟩ (.int .i64 0)).setCell ⟨T,1,none⟩ (.slice none 0 0)).setCell ⟨T,2,none⟩ (.bool false)).setCell ⟨T,3,none⟩ (.int .i64 0)).setCell ⟨K,0,none⟩ (.bool false)
structure TurnAt (w:World) (T K:Nat) (a:Int) (b:Value) (c:Bool) (d:Int) (k:Bool):Prop where
 c0:w.cell? ⟨T,0,none⟩=some (.int .i64 a)
 c1:w.cell? ⟨T,1,none⟩=some b
 c2:w.cell? ⟨T,2,none⟩=some (.bool c)
 c3:w.cell? ⟨T,3,none⟩=some (.int .i64 d)
 ck:w.cell? ⟨K,0,none⟩=some (.bool k)
 fz:∀ j,w.frozen? ⟨T,j,none⟩=false
 fk:w.frozen? ⟨K,0,none⟩=false
 ne:T≠K
theorem tcatch_zero (T K:Nat) (z f:Addr) (a d:Int) (b:Value) (c k:Bool) (w:World) (h:TurnAt w T K a b c d k) (he:Errs w z f) :
  CallsD Tryz.prog 126 #[.pointer (some ⟨T,0,none⟩),.pointer (some ⟨K,0,none⟩)] (.panicking ({ v := .iface 484 (.pointer (some z)),recovered:=false } :: [])) w fun e u' w' =>
   e = .returned (.tuple #[])∧u' = .panicking ({ v := .iface 484 (.pointer (some z)),recovered:=true } :: [])∧w'=caught w T K:=by
 have cz:=he.cz
 have h1:=eql_same z w
 have h0:=eql_nil 484 (.pointer (some z)) w
 obtain⟨c0,c1,c2,c3,ck,fz,fk,ne⟩:=h
 have f0:=fz 0
 have f1:=fz 1
 have f2:=fz 2
 have f3:=fz 3
 clear he
 refine callsD_of_wpS Tryz.func126 rfl fun c₀ cs hu=>?_
 apply wpS_seq
 apply wpS_region
 simp[wpOpsS,go_sem,recoverD,hu,Tryz.ntmps126,Exit.thenS]
 refine wpS_of_wp ?_
 show Code.wp _ _ _ { tmps := #[.pointer (some ⟨T,0,none⟩),.pointer (some ⟨K,0,none⟩),.iface 484 (.pointer (some z)),.iface 484 (.pointer (some z)),undef,undef,undef,undef,undef,undef,undef,undef,undef,undef],defers:=[] } w
 go_wp2
 cases c₀
 refine⟨rfl,_,?_,.tuple #[],by simp[results,Tryz.results126,go_sem],rfl,rfl,rfl⟩
 simp_all
theorem tcatch_fuel (T K:Nat) (z f:Addr) (a d:Int) (b:Value) (c k:Bool) (w:World) (h:TurnAt w T K a b c d k) (he:Errs w z f) :
  CallsD Tryz.prog 126 #[.pointer (some ⟨T,0,none⟩),.pointer (some ⟨K,0,none⟩)] (.panicking ({ v := .iface 484 (.pointer (some f)),recovered:=false } :: [])) w fun e u' w' =>
   e = .returned (.tuple #[])∧u' = .panicking ({ v := .iface 484 (.pointer (some f)),recovered:=true } :: [])∧w'=caught w T K:=by
 have cz:=he.cz
 have cf:=he.cf
 have h1:=eql_same f w
 have h0:=eql_nil 484 (.pointer (some f)) w
 have h2:=eql_other he
 obtain⟨c0,c1,c2,c3,ck,fz,fk,ne⟩:=h
 have f0:=fz 0
 have f1:=fz 1
 have f2:=fz 2
 have f3:=fz 3
 clear he
 refine callsD_of_wpS Tryz.func126 rfl fun c₀ cs hu=>?_
 apply wpS_seq
 apply wpS_region
 simp[wpOpsS,go_sem,recoverD,hu,Tryz.ntmps126,Exit.thenS]
 refine wpS_of_wp ?_
 show Code.wp _ _ _ { tmps := #[.pointer (some ⟨T,0,none⟩),.pointer (some ⟨K,0,none⟩),.iface 484 (.pointer (some f)),.iface 484 (.pointer (some f)),undef,undef,undef,undef,undef,undef,undef,undef,undef,undef],defers:=[] } w
 go_wp2
 cases c₀
 refine⟨rfl,_,?_,.tuple #[],by simp[results,Tryz.results126,go_sem],rfl,rfl,rfl⟩
 simp_all
end Go.Proofs.YteflnddphpjahaaGreatDoor
