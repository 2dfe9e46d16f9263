import Derived.Test.YteflnddphpjahaaGreatDoorCmRnLtoCardD
import Derived.Test.YteflnddphpjahaaGreatDoorCmSrtLtoRsA
import Derived.Test.YteflnddphpjahaaGreatDoorCmRxBtoCqT
import Derived.Test.YteflnddphpjahaaGreatDoorCmSameAtoLineD
import Derived.Test.YteflnddphpjahaaGreatDoorCmRnEtoRnK
import Derived.Test.YteflnddphpjahaaGreatDoorCmCqEtoCqK
import Derived.Test.YteflnddphpjahaaGreatDoorCmSrtAtoCqD
import Derived.Deep.RegionLaw
set_option linter.unusedVariables false
set_option linter.unusedSimpArgs false
set_option maxRecDepth 100000
set_option maxHeartbeats 16000000
namespace Go.Proofs.YteflnddphpjahaaGreatDoor
open Go.RowKit
theorem own_low {w:World} {B B' e size n:Nat} {v:Value} {xs:List Value} (h:w.ownsRow B' e size v n xs) (hB:B≤B'):w.ownsRow B e size v n xs:=by
 obtain⟨h1,h2⟩:=h
 refine⟨h1,?_⟩
 rcases h2 with h2 | ⟨g,cap,cur,hv,hB',hg,r⟩
 ·exact .inl h2
 ·exact .inr ⟨g,cap,cur,hv,Nat.le_trans hB hB',hg,r⟩
structure JoinFn (F:Nat) (k:List UInt8):Prop where
 enter:∀ (args:Array Value) (w:World),(callFunc F args).run Tryz.prog w = .ok (.enter F args) w
 calls:∀ (a b:Int) (w:World),Calls Tryz.prog F #[.int .i64 a,.int .i64 b] w fun e w'=>e = .returned (.int .i64 (Sp.joinK k a b))∧w'=w
theorem join_min:JoinFn 301 [109,105,110]:=by
 refine⟨cfe Tryz.func301 (by kernel_rfl) (by kernel_rfl),fun a b w=>?_⟩
 have h:Sp.joinK [109,105,110] a b=min a b:=by unfold Sp.joinK;simp only[List.cons.injEq,reduceCtorEq,and_false,if_false];simp;omega
 rw[h]
 go_enter Tryz.func301,Tryz.ntmps301
 go_wp2
 go_ret
 exact⟨rfl,rfl⟩
theorem join_max:JoinFn 302 [109,97,120]:=by
 refine⟨cfe Tryz.func302 (by kernel_rfl) (by kernel_rfl),fun a b w=>?_⟩
 have h:Sp.joinK [109,97,120] a b=max a b:=by unfold Sp.joinK;simp only[List.cons.injEq,reduceCtorEq,and_false,if_false];simp;omega
 rw[h]
 go_enter Tryz.func302,Tryz.ntmps302
 go_wp2
 go_ret
 exact⟨rfl,rfl⟩
theorem join_sum:JoinFn 303 [115,117,109]:=by
 refine⟨cfe Tryz.func303 (by kernel_rfl) (by kernel_rfl),fun a b w=>?_⟩
 have h:Sp.joinK [115,117,109] a b=wrap64 (a+b):=by unfold Sp.joinK;simp
 rw[h]
 go_enter Tryz.func303,Tryz.ntmps303
 go_wp2
 go_ret
 exact⟨rfl,rfl⟩
theorem join_of:(k:Nat)→k < 3→JoinFn (cmF[k]!) (Sp.combsL[k]!)
 | 0,_=>join_min
 | 1,_=>join_max
 | 2,_=>join_sum
 | n+3,h=>absurd h (by omega)
theorem none_of:(k:Nat)→k < 3→cmNt k=Sp.noneK (Sp.combsL[k]!)
 | 0,_=>rfl
 | 1,_=>rfl
 | 2,_=>rfl
 | n+3,h=>absurd h (by omega)
def CombAt (w:World) (B o:Nat) (k:List UInt8):Prop := ∃ nm F,w.cell? ⟨B,o,none⟩=some (.string nm)∧w.cell? ⟨B,o+1,none⟩=some (.int .i64 (Sp.noneK k))∧w.cell? ⟨B,o+2,none⟩=some (.func (.func F) #[] #[])∧JoinFn F k
structure PrgAt (w:World) (B:Nat) (P:Sp.Pg):Prop where
 lt:B < w.heap.size
 code:∀ i,i < 5→∃ g cap,w.cell? ⟨B,i * 4,none⟩=some (.slice (some ⟨g,0,none⟩) (P.code i).length cap)∧CodeW w g (P.code i)
 by':CombAt w B 21 P.by'
 al:CombAt w B 25 P.al
theorem CombAt.below {w w':World} {B o:Nat} {k:List UInt8} (h:CombAt w B o k) (hB:B < w.heap.size) (hb:Below w.heap.size w w'):CombAt w' B o k:=by
 obtain⟨nm,F,h1,h2,h3,h4⟩:=h
 exact⟨nm,F,(hb.cell (p:=⟨B,o,none⟩) hB).trans h1,(hb.cell (p:=⟨B,o+1,none⟩) hB).trans h2,(hb.cell (p:=⟨B,o+2,none⟩) hB).trans h3,h4⟩
theorem PrgAt.below {w w':World} {B:Nat} {P:Sp.Pg} (h:PrgAt w B P) (hb:Below w.heap.size w w'):PrgAt w' B P:=by
 refine⟨Nat.lt_of_lt_of_le h.lt hb.size,fun i hi=>?_,h.by'.below h.lt hb,h.al.below h.lt hb⟩
 obtain⟨g,cap,h1,h2⟩:=h.code i hi
 exact⟨g,cap,(hb.cell (p:=⟨B,i * 4,none⟩) h.lt).trans h1,h2.below hb⟩
def CombPost (k:List UInt8) (w:World) (e:Ending) (w':World):Prop := ∃ nm F,e = .returned (.agg #[.string nm,.int .i64 (Sp.noneK k),.func (.func F) #[] #[]])∧JoinFn F k∧Below w.heap.size w w'
theorem by_any (B:Nat) (P:Sp.Pg) (w:World) (h:PrgAt w B P):Calls Tryz.prog 75 #[.pointer (some ⟨B,0,none⟩)] w (CombPost P.by' w):=by
 obtain⟨nm,F,h1,h2,h3,h4⟩:=h.by'
 have hlt:=h.lt
 have H4:=hde h4
 obtain⟨q,HQ⟩:∃ q,Hid (Sp.noneK P.by'=q):=⟨_,rfl⟩
 rw[uh HQ] at h2
 clear h4 h
 have hb:Below w.heap.size w (w.alloc (.cells #[.string ⟨#[]⟩,.int .i64 0,.nilFunc] 173)):=(Below.refl _ _).alloc nlr _
 go_enter Tryz.func75,Tryz.ntmps75
 go_wp2
 refine bodyPost_ret (v := .agg #[.string nm,.int .i64 q,.func (.func F) #[] #[]]) (by simp[results,Tryz.results75,go_sem]) rfl ⟨nm,F,by rw[uh HQ],uh H4,?_⟩
 exact(Below.refl _ _).alloc nlr _
theorem all_any (B:Nat) (P:Sp.Pg) (w:World) (h:PrgAt w B P):Calls Tryz.prog 74 #[.pointer (some ⟨B,0,none⟩)] w (CombPost P.al w):=by
 obtain⟨nm,F,h1,h2,h3,h4⟩:=h.al
 have hlt:=h.lt
 have H4:=hde h4
 obtain⟨q,HQ⟩:∃ q,Hid (Sp.noneK P.al=q):=⟨_,rfl⟩
 rw[uh HQ] at h2
 clear h4 h
 have hb:Below w.heap.size w (w.alloc (.cells #[.string ⟨#[]⟩,.int .i64 0,.nilFunc] 173)):=(Below.refl _ _).alloc nlr _
 go_enter Tryz.func74,Tryz.ntmps74
 go_wp2
 refine bodyPost_ret (v := .agg #[.string nm,.int .i64 q,.func (.func F) #[] #[]]) (by simp[results,Tryz.results74,go_sem]) rfl ⟨nm,F,by rw[uh HQ],uh H4,?_⟩
 exact(Below.refl _ _).alloc nlr _
def stk (T:List Int):List Value:=T.reverse.map (Value.int .i64)
theorem stk_len (T:List Int):(stk T).length=T.length:=by simp[stk]
theorem stk_cons (v:Int) (T:List Int):stk (v :: T)=stk T++[.int .i64 v]:=by simp[stk]
structure Dog (w:World) (D:Nat) (E:Sp.Ev) (T:List Int) (fuel:Int) (failed:Bool) (x:Value):Prop where
 e0:w.cell? ⟨D,0,none⟩=some (.int .i64 E.value)
 e1:w.cell? ⟨D,1,none⟩=some (.int .i64 E.old)
 e2:w.cell? ⟨D,2,none⟩=some (.int .i64 E.inn)
 e3:w.cell? ⟨D,3,none⟩=some (.int .i64 E.got)
 e4:w.cell? ⟨D,4,none⟩=some (.int .i64 E.step)
 e5:w.cell? ⟨D,5,none⟩=some (.int .i64 E.id)
 e6:w.cell? ⟨D,6,none⟩=some (.int .i64 E.deg)
 e7:w.cell? ⟨D,7,none⟩=some (.int .i64 E.all)
 e8:w.cell? ⟨D,8,none⟩=some (.int .i64 E.weight)
 st:w.cell? ⟨D,9,none⟩=some x
 fu:w.cell? ⟨D,10,none⟩=some (.int .i64 fuel)
 fa:w.cell? ⟨D,11,none⟩=some (.bool failed)
 fz:∀ j,w.frozen? ⟨D,j,none⟩=false
 row:w.ownsRow (D+1) 2 1 x T.length (stk T)
theorem Dog.lt {w:World} {D:Nat} {E:Sp.Ev} {T:List Int} {fuel:Int} {failed:Bool} {x:Value} (h:Dog w D E T fuel failed x):D < w.heap.size:=World.block_lt_of_cell? w _ h.e0
theorem Dog.far {w w':World} {D:Nat} {E:Sp.Ev} {T T':List Int} {fuel:Int} {failed:Bool} {x x':Value} (h:Dog w D E T fuel failed x) (hc:∀ j,j≠9→w'.cell? ⟨D,j,none⟩=w.cell? ⟨D,j,none⟩) (hf:∀ j,w'.frozen? ⟨D,j,none⟩=w.frozen? ⟨D,j,none⟩) (hs:w'.cell? ⟨D,9,none⟩=some x') (hr:w'.ownsRow (D+1) 2 1 x' T'.length (stk T')):Dog w' D E T' fuel failed x' :=
 ⟨(hc _ (by omega)).trans h.e0,(hc _ (by omega)).trans h.e1,(hc _ (by omega)).trans h.e2,(hc _ (by omega)).trans h.e3,(hc _ (by omega)).trans h.e4,(hc _ (by omega)).trans h.e5,(hc _ (by omega)).trans h.e6,(hc _ (by omega)).trans h.e7,(hc _ (by omega)).trans h.e8,hs,(hc _ (by omega)).trans h.fu,(hc _ (by omega)).trans h.fa,fun j=>(hf j).trans (h.fz j),hr⟩
theorem Dog.below {w w':World} {D:Nat} {E:Sp.Ev} {T:List Int} {fuel:Int} {failed:Bool} {x:Value} (h:Dog w D E T fuel failed x) (hb:Below w.heap.size w w'):Dog w' D E T fuel failed x :=
 h.far (fun j _=>hb.cell (p:=⟨D,j,none⟩) h.lt) (fun j=>hb.frozen (p:=⟨D,j,none⟩) h.lt) ((hb.cell (p:=⟨D,9,none⟩) h.lt).trans h.st) (obl h.row hb)
theorem Dog.drew {w:World} {D:Nat} {E:Sp.Ev} {T:List Int} {fuel:Int} {failed:Bool} {x:Value} (h:Dog w D E T fuel failed x):Dog w.drew D E T fuel failed x:=h.below ((Below.refl _ _).drew)
theorem Dog.drewN {w:World} {D:Nat} {E:Sp.Ev} {T:List Int} {fuel:Int} {failed:Bool} {x:Value} (h:Dog w D E T fuel failed x) (n:Nat):Dog (w.drewN n) D E T fuel failed x:=h.below (below_drewN w n)
theorem Dog.alloc {w:World} {D:Nat} {E:Sp.Ev} {T:List Int} {fuel:Int} {failed:Bool} {x:Value} (h:Dog w D E T fuel failed x) (o:Obj):Dog (w.alloc o) D E T fuel failed x:=h.below ((Below.refl _ _).alloc nlr _)
theorem Dog.fue {w:World} {D:Nat} {E:Sp.Ev} {T:List Int} {fuel:Int} {failed:Bool} {x:Value} (h:Dog w D E T fuel failed x) (f:Int):Dog (w.setCell ⟨D,10,none⟩ (.int .i64 f)) D E T f failed x:=by
 have ho:∀ j,j≠10→(w.setCell ⟨D,10,none⟩ (.int .i64 f)).cell? ⟨D,j,none⟩=w.cell? ⟨D,j,none⟩:=fun j hj=>cso (by omega)
 exact⟨(ho _ (by omega)).trans h.e0,(ho _ (by omega)).trans h.e1,(ho _ (by omega)).trans h.e2,(ho _ (by omega)).trans h.e3,(ho _ (by omega)).trans h.e4,(ho _ (by omega)).trans h.e5,(ho _ (by omega)).trans h.e6,(ho _ (by omega)).trans h.e7,(ho _ (by omega)).trans h.e8,(ho _ (by omega)).trans h.st,World.cell?_setCell_same _ _ _ h.fu,(ho _ (by omega)).trans h.fa,fun j=>by rw[World.frozen?_setCell];exact h.fz j,((Only.refl D w).set _ _).own h.row⟩
theorem Dog.fai {w:World} {D:Nat} {E:Sp.Ev} {T:List Int} {fuel:Int} {failed:Bool} {x:Value} (h:Dog w D E T fuel failed x) (f:Bool):Dog (w.setCell ⟨D,11,none⟩ (.bool f)) D E T fuel f x:=by
 have ho:∀ j,j≠11→(w.setCell ⟨D,11,none⟩ (.bool f)).cell? ⟨D,j,none⟩=w.cell? ⟨D,j,none⟩:=fun j hj=>cso (by omega)
 exact⟨(ho _ (by omega)).trans h.e0,(ho _ (by omega)).trans h.e1,(ho _ (by omega)).trans h.e2,(ho _ (by omega)).trans h.e3,(ho _ (by omega)).trans h.e4,(ho _ (by omega)).trans h.e5,(ho _ (by omega)).trans h.e6,(ho _ (by omega)).trans h.e7,(ho _ (by omega)).trans h.e8,(ho _ (by omega)).trans h.st,(ho _ (by omega)).trans h.fu,World.cell?_setCell_same _ _ _ h.fa,fun j=>by rw[World.frozen?_setCell];exact h.fz j,((Only.refl D w).set _ _).own h.row⟩
theorem Dog.sta {w:World} {D:Nat} {E:Sp.Ev} {T T':List Int} {fuel:Int} {failed:Bool} {x x':Value} (h:Dog w D E T fuel failed x) (hr:w.ownsRow (D+1) 2 1 x' T'.length (stk T')):Dog (w.setCell ⟨D,9,none⟩ x') D E T' fuel failed x' :=
 h.far (fun j hj=>cso (by omega)) (fun j=>World.frozen?_setCell _ _ _ _) (World.cell?_setCell_same _ _ _ h.st) (((Only.refl D w).set _ _).own hr)
def DogS (w:World) (D:Nat) (E:Sp.Ev) (T:List Int) (fuel:Int) (failed:Bool):Prop := ∃ x,Dog w D E T fuel failed x
theorem Dog.slice {w:World} {D:Nat} {E:Sp.Ev} {v:Int} {T:List Int} {fuel:Int} {failed:Bool} {x:Value} (h:Dog w D E (v :: T) fuel failed x) :
  ∃ g cap,x = .slice (some ⟨g,0,none⟩) (T.length+1) cap∧D < g∧T.length+1≤cap∧w.cell? ⟨g,T.length,none⟩=some (.int .i64 v)∧w.ownsRow (D+1) 2 1 (.slice (some ⟨g,0,none⟩) T.length cap) T.length (stk T):=by
 have hr:=h.row
 rw[List.length_cons] at hr
 rcases hr.2 with ⟨_,hn⟩ | ⟨g,cap,cur,hv,hB,hg,r⟩
 ·omega
 ·subst hv
  refine⟨g,cap,rfl,hB,r.1,?_,?_⟩
  ·rw[hr.cellAt T.length (by omega),stk_cons,List.getElem?_append_right (by rw[stk_len];omega),stk_len,Nat.sub_self];rfl
  ·have:=own_cut hr
   rw[stk_cons,List.take_left' (by rw[stk_len];omega)] at this
   exact this
theorem dpop (v:Int) (D:Nat) (E:Sp.Ev) (T:List Int) (fuel:Int) (failed:Bool) (w:World) (h:DogS w D E (v :: T) fuel failed) (hT:T.length≤10000) :
  Calls Tryz.prog 295 #[.pointer (some ⟨D,0,none⟩)] w fun e w'=>e = .returned (.int .i64 v)∧DogS w' D E T fuel failed∧Below D w w':=by
 obtain⟨x,hd⟩:=h
 obtain⟨g,cap,rfl,hg,hcap,hc,hr⟩:=hd.slice
 have HD:=hde hd
 have HR:=hde hr
 have hlt:=hd.lt
 have e1:=hd.st
 have f1:=hd.fz 9
 have HZ:Hid (DogS (w.setCell ⟨D,9,none⟩ (.slice (some ⟨g,0,none⟩) T.length cap)) D E T fuel failed∧Below D w (w.setCell ⟨D,9,none⟩ (.slice (some ⟨g,0,none⟩) T.length cap))):=
  ⟨⟨_,(uh HD).sta (uh HR)⟩,(Below.refl D w).setCell (p:=⟨D,9,none⟩) nlr _⟩
 clear hd hr
 obtain⟨n,hn⟩:∃ n,T.length=n:=⟨_,rfl⟩
 rw[hn] at hcap hc e1 hT HZ
 clear HD HR
 have g0:((n+1:Nat):Int) - 1=(n:Int):=by omega
 have g1:(0:Int)≤(n:Int):=Int.natCast_nonneg _
 have g2:(n:Int) < ((n+1:Nat):Int):=by omega
 have hc0:(n:Int)≤(cap:Int):=by omega
 have hc1:n≤cap:=by omega
 clear hn
 go_enter Tryz.func295,Tryz.ntmps295
 go_wp2
 exact bodyPost_ret (v := .int .i64 v) (by simp[results,Tryz.results295,go_sem]) rfl ⟨rfl,(uh HZ).1,(uh HZ).2⟩
theorem dpush (v:Int) (D:Nat) (E:Sp.Ev) (T:List Int) (fuel:Int) (failed:Bool) (w:World) (h:DogS w D E T fuel failed) (hT:T.length≤10000) :
  Calls Tryz.prog 241 #[.pointer (some ⟨D,0,none⟩),.int .i64 v] w fun e w'=>e = .returned (.tuple #[])∧DogS w' D E (v :: T) fuel failed∧Below D w w':=by
 obtain⟨t2,ht2,hva,hvb,hvc⟩:=info_parts Tryz.info_i64
 obtain⟨x,hd⟩:=h
 have hr:=hd.row
 have hml:=hd.lt
 have e2:=hd.st
 have e3:=hd.fz 9
 have hne2:some D≠x.ownBlock:=fun e=>by have:=(hr.lt D e.symm).1;omega
 go_enter Tryz.func241,Tryz.ntmps241
 go_wp2_with (first
  | (at_builtin;go_must (refine wpList_append_lies _ rfl (.tmp 8) (.tmp 10) 42 rfl (D+1) 2 t2 _ 1 8 Tryz.underlying42 ht2 hva hvb hvc rfl (by omega) x _ _ rfl (hr.alloc _) ⟨w.heap.size,0,none⟩ 1 1 [.int .i64 v] rfl rfl (World.news_of_block (cs := #[.int .i64 v]) (t:=2) (fr:=(0,0)) (heap_alloc_new w _)) (by simp[Value.oneCell']) (by omega) (by unfold maxLen;omega) (by omega) (by simp;omega) (w.heap.size+1) (by simp) ?_;intro gg cp w2 hown1 hgrow hat hlt1;have hq0:w2.cell? ⟨D,9,none⟩=some x:=(hgrow.cell_far ⟨D,9,none⟩ (by simp;omega) hne2).trans (hd.alloc _).st;have hq1:w2.frozen? ⟨D,9,none⟩=false:=(hgrow.frozen_far ⟨D,9,none⟩ (by simp;omega) hne2).trans ((hd.alloc _).fz 9)))
  | go_in)
 have hb1:=below_app ((Below.refl D w).alloc (Nat.le_of_lt hml) _) (hd.alloc _).lt (hr.alloc _) hgrow 9 (.slice (some ⟨gg,0,none⟩) (T.length+1) cp)
 refine bodyPost_end (results_none rfl _ _ _) rfl ⟨rfl,⟨_,(hd.alloc _).far (fun j hj=>(cso (by omega)).trans (hgrow.cell_far ⟨D,j,none⟩ (by simp;omega) hne2)) (fun j=>(World.frozen?_setCell _ _ _ _).trans (hgrow.frozen_far ⟨D,j,none⟩ (by simp;omega) hne2)) (World.cell?_setCell_same _ _ _ hq0) ?_⟩,hb1⟩
 rw[stk_cons]
 exact((Only.refl D w2).set _ _).own hown1
theorem dpays1 (D:Nat) (E:Sp.Ev) (T:List Int) (fuel:Nat) (w:World) (h:DogS w D E T ((fuel+1:Nat):Int) false) (hf:fuel≤10000) :
  Calls Tryz.prog 239 #[.pointer (some ⟨D,0,none⟩)] w fun e w'=>e = .returned (.bool true)∧DogS w' D E T (fuel:Int) false∧Below D w w':=by
 obtain⟨x,hd⟩:=h
 have HD:=hde hd
 have hlt:=hd.lt
 have e1:=hd.fu
 have f1:=hd.fz 10
 have e2:=hd.fa
 have HZ:Hid (DogS (w.setCell ⟨D,10,none⟩ (.int .i64 (fuel:Int))) D E T fuel false∧Below D w (w.setCell ⟨D,10,none⟩ (.int .i64 (fuel:Int)))):=
  ⟨⟨_,(uh HD).fue (fuel:Int)⟩,(Below.refl D w).setCell (p:=⟨D,10,none⟩) nlr _⟩
 have g1:((((fuel+1:Nat)):Int) == 0)=false:=beq_eq_false_iff_ne.2 (by omega)
 have g2:((fuel+1:Nat):Int) - 1=(fuel:Int):=by omega
 clear hd
 go_enter Tryz.func239,Tryz.ntmps239
 go_wp2
 exact bodyPost_ret (v := .bool true) (by simp[results,Tryz.results239,go_sem]) rfl ⟨rfl,(uh HZ).1,(uh HZ).2⟩
theorem dpays0 (D:Nat) (E:Sp.Ev) (T:List Int) (w:World) (h:DogS w D E T 0 false) :
  Calls Tryz.prog 239 #[.pointer (some ⟨D,0,none⟩)] w fun e w'=>e = .returned (.bool false)∧DogS w' D E T (-1) true∧Below D w w':=by
 obtain⟨x,hd⟩:=h
 have HD:=hde hd
 have hlt:=hd.lt
 have e1:=hd.fu
 have f1:=hd.fz 10
 have e2:=hd.fa
 have f2:=hd.fz 11
 have HZ:Hid (DogS ((w.setCell ⟨D,11,none⟩ (.bool true)).setCell ⟨D,10,none⟩ (.int .i64 (-1))) D E T (-1) true∧Below D w ((w.setCell ⟨D,11,none⟩ (.bool true)).setCell ⟨D,10,none⟩ (.int .i64 (-1)))):=
  ⟨⟨_,((uh HD).fai true).fue (-1)⟩,((Below.refl D w).setCell (p:=⟨D,11,none⟩) nlr _).setCell (p:=⟨D,10,none⟩) nlr _⟩
 clear hd
 go_enter Tryz.func239,Tryz.ntmps239
 go_wp2
 exact bodyPost_ret (v := .bool false) (by simp[results,Tryz.results239,go_sem]) rfl ⟨rfl,(uh HZ).1,(uh HZ).2⟩
theorem dflag (b:Bool) (w:World):Calls Tryz.prog 296 #[.bool b] w fun e w'=>e = .returned (.int .i64 (if b=true then 1 else 0))∧w'=w:=by
 cases b with
 | true =>
  go_enter Tryz.func296,Tryz.ntmps296
  go_wp2
  go_ret
  exact⟨rfl,rfl⟩
 | false =>
  go_enter Tryz.func296,Tryz.ntmps296
  go_wp2
  go_ret
  exact⟨rfl,rfl⟩
def DPost (o:Option (List Int)) (D:Nat) (E:Sp.Ev) (fuel:Int) (w:World) (e:Ending) (w':World):Prop :=
 e = .returned (.tuple #[])∧Below D w w'∧match o with
  | some T=>DogS w' D E T fuel false
  | none=>∃ T,DogS w' D E T fuel true
theorem dfails (D:Nat) (E:Sp.Ev) (T:List Int) (fuel:Int) (w:World) (h:DogS w D E T fuel false) (k:Nat):∃ T,DogS ((w.setCell ⟨D,11,none⟩ (.bool true)).drewN k) D E T fuel true:=by
 obtain⟨x,hd⟩:=h
 exact⟨T,x,(hd.fai true).drewN k⟩
theorem dtwo_add (a b:Int) (D:Nat) (E:Sp.Ev) (T:List Int) (fuel:Int) (w:World) (h:DogS w D E (b :: a :: T) fuel false) (hT:T.length≤1000):Calls Tryz.prog 243 #[.pointer (some ⟨D,0,none⟩),.string ⟨#[43]⟩] w (DPost ((Sp.op2 [43] a b).map (· :: T)) D E fuel w):=by
 have hz:(b == 0)=true∨(b == 0)=false:=by cases (b == 0) <;> simp
 rw[show Sp.op2 [43] a b=some (wrap64 (a+b)) by simp[Sp.op2]]
 rcases hz with hz | hz
 ·go_enter Tryz.func243,Tryz.ntmps243
  go_wp2_with fail
  refine(dpop b D E (a :: T) fuel false w h (by simp;omega)).mono ?_
  rintro e w1 ⟨rfl,hd1,hb1⟩
  go_wp2_with fail
  refine(dpop a D E T fuel false w1 hd1 (by omega)).mono ?_
  rintro e w2 ⟨rfl,hd2,hb2⟩
  go_wp2_with fail
  refine(dpush (wrap64 (a+b)) D E T fuel false w2 hd2 (by omega)).mono ?_
  rintro e w4 ⟨rfl,hd4,hb4⟩
  go_wp2
  exact bodyPost_end (results_none rfl _ _ _) rfl ⟨rfl,(hb1.trans hb2).trans hb4,hd4⟩
 ·go_enter Tryz.func243,Tryz.ntmps243
  go_wp2_with fail
  refine(dpop b D E (a :: T) fuel false w h (by simp;omega)).mono ?_
  rintro e w1 ⟨rfl,hd1,hb1⟩
  go_wp2_with fail
  refine(dpop a D E T fuel false w1 hd1 (by omega)).mono ?_
  rintro e w2 ⟨rfl,hd2,hb2⟩
  go_wp2_with fail
  refine(dpush (wrap64 (a+b)) D E T fuel false w2 hd2 (by omega)).mono ?_
  rintro e w4 ⟨rfl,hd4,hb4⟩
  go_wp2
  exact bodyPost_end (results_none rfl _ _ _) rfl ⟨rfl,(hb1.trans hb2).trans hb4,hd4⟩
theorem dtwo_sub (a b:Int) (D:Nat) (E:Sp.Ev) (T:List Int) (fuel:Int) (w:World) (h:DogS w D E (b :: a :: T) fuel false) (hT:T.length≤1000):Calls Tryz.prog 243 #[.pointer (some ⟨D,0,none⟩),.string ⟨#[45]⟩] w (DPost ((Sp.op2 [45] a b).map (· :: T)) D E fuel w):=by
 have hz:(b == 0)=true∨(b == 0)=false:=by cases (b == 0) <;> simp
 rw[show Sp.op2 [45] a b=some (wrap64 (a - b)) by simp[Sp.op2]]
 rcases hz with hz | hz
 ·go_enter Tryz.func243,Tryz.ntmps243
  go_wp2_with fail
  refine(dpop b D E (a :: T) fuel false w h (by simp;omega)).mono ?_
  rintro e w1 ⟨rfl,hd1,hb1⟩
  go_wp2_with fail
  refine(dpop a D E T fuel false w1 hd1 (by omega)).mono ?_
  rintro e w2 ⟨rfl,hd2,hb2⟩
  go_wp2_with fail
  refine(dpush (wrap64 (a - b)) D E T fuel false w2 hd2 (by omega)).mono ?_
  rintro e w4 ⟨rfl,hd4,hb4⟩
  go_wp2
  exact bodyPost_end (results_none rfl _ _ _) rfl ⟨rfl,(hb1.trans hb2).trans hb4,hd4⟩
 ·go_enter Tryz.func243,Tryz.ntmps243
  go_wp2_with fail
  refine(dpop b D E (a :: T) fuel false w h (by simp;omega)).mono ?_
  rintro e w1 ⟨rfl,hd1,hb1⟩
  go_wp2_with fail
  refine(dpop a D E T fuel false w1 hd1 (by omega)).mono ?_
  rintro e w2 ⟨rfl,hd2,hb2⟩
  go_wp2_with fail
  refine(dpush (wrap64 (a - b)) D E T fuel false w2 hd2 (by omega)).mono ?_
  rintro e w4 ⟨rfl,hd4,hb4⟩
  go_wp2
  exact bodyPost_end (results_none rfl _ _ _) rfl ⟨rfl,(hb1.trans hb2).trans hb4,hd4⟩
theorem dtwo_mul (a b:Int) (D:Nat) (E:Sp.Ev) (T:List Int) (fuel:Int) (w:World) (h:DogS w D E (b :: a :: T) fuel false) (hT:T.length≤1000):Calls Tryz.prog 243 #[.pointer (some ⟨D,0,none⟩),.string ⟨#[42]⟩] w (DPost ((Sp.op2 [42] a b).map (· :: T)) D E fuel w):=by
 have hz:(b == 0)=true∨(b == 0)=false:=by cases (b == 0) <;> simp
 rw[show Sp.op2 [42] a b=some (wrap64 (a * b)) by simp[Sp.op2]]
 rcases hz with hz | hz
 ·go_enter Tryz.func243,Tryz.ntmps243
  go_wp2_with fail
  refine(dpop b D E (a :: T) fuel false w h (by simp;omega)).mono ?_
  rintro e w1 ⟨rfl,hd1,hb1⟩
  go_wp2_with fail
  refine(dpop a D E T fuel false w1 hd1 (by omega)).mono ?_
  rintro e w2 ⟨rfl,hd2,hb2⟩
  go_wp2_with fail
  refine(dpush (wrap64 (a * b)) D E T fuel false w2 hd2 (by omega)).mono ?_
  rintro e w4 ⟨rfl,hd4,hb4⟩
  go_wp2
  exact bodyPost_end (results_none rfl _ _ _) rfl ⟨rfl,(hb1.trans hb2).trans hb4,hd4⟩
 ·go_enter Tryz.func243,Tryz.ntmps243
  go_wp2_with fail
  refine(dpop b D E (a :: T) fuel false w h (by simp;omega)).mono ?_
  rintro e w1 ⟨rfl,hd1,hb1⟩
  go_wp2_with fail
  refine(dpop a D E T fuel false w1 hd1 (by omega)).mono ?_
  rintro e w2 ⟨rfl,hd2,hb2⟩
  go_wp2_with fail
  refine(dpush (wrap64 (a * b)) D E T fuel false w2 hd2 (by omega)).mono ?_
  rintro e w4 ⟨rfl,hd4,hb4⟩
  go_wp2
  exact bodyPost_end (results_none rfl _ _ _) rfl ⟨rfl,(hb1.trans hb2).trans hb4,hd4⟩
theorem dtwo_quo (a b:Int) (D:Nat) (E:Sp.Ev) (T:List Int) (fuel:Int) (w:World) (h:DogS w D E (b :: a :: T) fuel false) (hT:T.length≤1000):Calls Tryz.prog 243 #[.pointer (some ⟨D,0,none⟩),.string ⟨#[47]⟩] w (DPost ((Sp.op2 [47] a b).map (· :: T)) D E fuel w):=by
 by_cases hz:b=0
 ·subst hz
  rw[show Sp.op2 [47] a 0=none by simp[Sp.op2]]
  go_enter Tryz.func243,Tryz.ntmps243
  go_wp2_with fail
  refine(dpop 0 D E (a :: T) fuel false w h (by simp;omega)).mono ?_
  rintro e w1 ⟨rfl,hd1,hb1⟩
  go_wp2_with fail
  refine(dpop a D E T fuel false w1 hd1 (by omega)).mono ?_
  rintro e w2 ⟨rfl,hd2,hb2⟩
  have HX:=hde (dfails D E T fuel w2 hd2)
  obtain⟨x,hx⟩:=hd2
  have k1:=hx.fa
  have k2:=hx.fz 11
  clear hx
  go_wp2
  exact bodyPost_ret (results_none rfl _ _ _) rfl ⟨rfl,((hb1.trans hb2).setCell (p:=⟨D,11,none⟩) nlr _),uh HX 0⟩
 ·have hz2:(b == 0)=false:=beq_eq_false_iff_ne.2 hz
  rw[show Sp.op2 [47] a b=some (wrap64 (a.tdiv b)) by simp[Sp.op2,hz]]
  go_enter Tryz.func243,Tryz.ntmps243
  go_wp2_with fail
  refine(dpop b D E (a :: T) fuel false w h (by simp;omega)).mono ?_
  rintro e w1 ⟨rfl,hd1,hb1⟩
  go_wp2_with fail
  refine(dpop a D E T fuel false w1 hd1 (by omega)).mono ?_
  rintro e w2 ⟨rfl,hd2,hb2⟩
  go_wp2_with fail
  refine(dpush (wrap64 (a.tdiv b)) D E T fuel false w2 hd2 (by omega)).mono ?_
  rintro e w4 ⟨rfl,hd4,hb4⟩
  go_wp2
  exact bodyPost_end (results_none rfl _ _ _) rfl ⟨rfl,(hb1.trans hb2).trans hb4,hd4⟩
theorem dtwo_rem (a b:Int) (D:Nat) (E:Sp.Ev) (T:List Int) (fuel:Int) (w:World) (h:DogS w D E (b :: a :: T) fuel false) (hT:T.length≤1000):Calls Tryz.prog 243 #[.pointer (some ⟨D,0,none⟩),.string ⟨#[37]⟩] w (DPost ((Sp.op2 [37] a b).map (· :: T)) D E fuel w):=by
 by_cases hz:b=0
 ·subst hz
  rw[show Sp.op2 [37] a 0=none by simp[Sp.op2]]
  go_enter Tryz.func243,Tryz.ntmps243
  go_wp2_with fail
  refine(dpop 0 D E (a :: T) fuel false w h (by simp;omega)).mono ?_
  rintro e w1 ⟨rfl,hd1,hb1⟩
  go_wp2_with fail
  refine(dpop a D E T fuel false w1 hd1 (by omega)).mono ?_
  rintro e w2 ⟨rfl,hd2,hb2⟩
  have HX:=hde (dfails D E T fuel w2 hd2)
  obtain⟨x,hx⟩:=hd2
  have k1:=hx.fa
  have k2:=hx.fz 11
  clear hx
  go_wp2
  exact bodyPost_ret (results_none rfl _ _ _) rfl ⟨rfl,((hb1.trans hb2).setCell (p:=⟨D,11,none⟩) nlr _),uh HX 0⟩
 ·have hz2:(b == 0)=false:=beq_eq_false_iff_ne.2 hz
  rw[show Sp.op2 [37] a b=some (a.tmod b) by simp[Sp.op2,hz]]
  go_enter Tryz.func243,Tryz.ntmps243
  go_wp2_with fail
  refine(dpop b D E (a :: T) fuel false w h (by simp;omega)).mono ?_
  rintro e w1 ⟨rfl,hd1,hb1⟩
  go_wp2_with fail
  refine(dpop a D E T fuel false w1 hd1 (by omega)).mono ?_
  rintro e w2 ⟨rfl,hd2,hb2⟩
  go_wp2_with fail
  refine(dpush (a.tmod b) D E T fuel false w2 hd2 (by omega)).mono ?_
  rintro e w4 ⟨rfl,hd4,hb4⟩
  go_wp2
  exact bodyPost_end (results_none rfl _ _ _) rfl ⟨rfl,(hb1.trans hb2).trans hb4,hd4⟩
theorem dtwo_lss (a b:Int) (D:Nat) (E:Sp.Ev) (T:List Int) (fuel:Int) (w:World) (h:DogS w D E (b :: a :: T) fuel false) (hT:T.length≤1000):Calls Tryz.prog 243 #[.pointer (some ⟨D,0,none⟩),.string ⟨#[60]⟩] w (DPost ((Sp.op2 [60] a b).map (· :: T)) D E fuel w):=by
 have hz:(b == 0)=true∨(b == 0)=false:=by cases (b == 0) <;> simp
 rw[show Sp.op2 [60] a b=some (if (decide (a < b))=true then 1 else 0) by simp[Sp.op2]]
 generalize hq:(if (decide (a < b))=true then (1:Int) else 0)=v
 replace hq:=hde hq
 rcases hz with hz | hz
 ·go_enter Tryz.func243,Tryz.ntmps243
  go_wp2_with fail
  refine(dpop b D E (a :: T) fuel false w h (by simp;omega)).mono ?_
  rintro e w1 ⟨rfl,hd1,hb1⟩
  go_wp2_with fail
  refine(dpop a D E T fuel false w1 hd1 (by omega)).mono ?_
  rintro e w2 ⟨rfl,hd2,hb2⟩
  go_wp2_with fail
  refine(dflag (decide (a < b)) w2).mono ?_
  rintro e w3 ⟨rfl,hw3⟩
  obtain rfl:=hw3.symm
  rw[uh hq]
  go_wp2_with fail
  refine(dpush v D E T fuel false w2 hd2 (by omega)).mono ?_
  rintro e w4 ⟨rfl,hd4,hb4⟩
  go_wp2
  exact bodyPost_end (results_none rfl _ _ _) rfl ⟨rfl,(hb1.trans hb2).trans hb4,hd4⟩
 ·go_enter Tryz.func243,Tryz.ntmps243
  go_wp2_with fail
  refine(dpop b D E (a :: T) fuel false w h (by simp;omega)).mono ?_
  rintro e w1 ⟨rfl,hd1,hb1⟩
  go_wp2_with fail
  refine(dpop a D E T fuel false w1 hd1 (by omega)).mono ?_
  rintro e w2 ⟨rfl,hd2,hb2⟩
  go_wp2_with fail
  refine(dflag (decide (a < b)) w2).mono ?_
  rintro e w3 ⟨rfl,hw3⟩
  obtain rfl:=hw3.symm
  rw[uh hq]
  go_wp2_with fail
  refine(dpush v D E T fuel false w2 hd2 (by omega)).mono ?_
  rintro e w4 ⟨rfl,hd4,hb4⟩
  go_wp2
  exact bodyPost_end (results_none rfl _ _ _) rfl ⟨rfl,(hb1.trans hb2).trans hb4,hd4⟩
theorem dtwo_eql (a b:Int) (D:Nat) (E:Sp.Ev) (T:List Int) (fuel:Int) (w:World) (h:DogS w D E (b :: a :: T) fuel false) (hT:T.length≤1000):Calls Tryz.prog 243 #[.pointer (some ⟨D,0,none⟩),.string ⟨#[61]⟩] w (DPost ((Sp.op2 [61] a b).map (· :: T)) D E fuel w):=by
 have hz:(b == 0)=true∨(b == 0)=false:=by cases (b == 0) <;> simp
 rw[show Sp.op2 [61] a b=some (if (a == b)=true then 1 else 0) by simp[Sp.op2]]
 generalize hq:(if (a == b)=true then (1:Int) else 0)=v
 replace hq:=hde hq
 rcases hz with hz | hz
 ·go_enter Tryz.func243,Tryz.ntmps243
  go_wp2_with fail
  refine(dpop b D E (a :: T) fuel false w h (by simp;omega)).mono ?_
  rintro e w1 ⟨rfl,hd1,hb1⟩
  go_wp2_with fail
  refine(dpop a D E T fuel false w1 hd1 (by omega)).mono ?_
  rintro e w2 ⟨rfl,hd2,hb2⟩
  go_wp2_with fail
  refine(dflag (a == b) w2).mono ?_
  rintro e w3 ⟨rfl,hw3⟩
  obtain rfl:=hw3.symm
  rw[uh hq]
  go_wp2_with fail
  refine(dpush v D E T fuel false w2 hd2 (by omega)).mono ?_
  rintro e w4 ⟨rfl,hd4,hb4⟩
  go_wp2
  exact bodyPost_end (results_none rfl _ _ _) rfl ⟨rfl,(hb1.trans hb2).trans hb4,hd4⟩
 ·go_enter Tryz.func243,Tryz.ntmps243
  go_wp2_with fail
  refine(dpop b D E (a :: T) fuel false w h (by simp;omega)).mono ?_
  rintro e w1 ⟨rfl,hd1,hb1⟩
  go_wp2_with fail
  refine(dpop a D E T fuel false w1 hd1 (by omega)).mono ?_
  rintro e w2 ⟨rfl,hd2,hb2⟩
  go_wp2_with fail
  refine(dflag (a == b) w2).mono ?_
  rintro e w3 ⟨rfl,hw3⟩
  obtain rfl:=hw3.symm
  rw[uh hq]
  go_wp2_with fail
  refine(dpush v D E T fuel false w2 hd2 (by omega)).mono ?_
  rintro e w4 ⟨rfl,hd4,hb4⟩
  go_wp2
  exact bodyPost_end (results_none rfl _ _ _) rfl ⟨rfl,(hb1.trans hb2).trans hb4,hd4⟩
theorem dtwo_min (a b:Int) (D:Nat) (E:Sp.Ev) (T:List Int) (fuel:Int) (w:World) (h:DogS w D E (b :: a :: T) fuel false) (hT:T.length≤1000):Calls Tryz.prog 243 #[.pointer (some ⟨D,0,none⟩),.string ⟨#[109,105,110]⟩] w (DPost ((Sp.op2 [109,105,110] a b).map (· :: T)) D E fuel w):=by
 have hz:(b == 0)=true∨(b == 0)=false:=by cases (b == 0) <;> simp
 by_cases hc:b < a
 ·rw[show Sp.op2 [109,105,110] a b=some (b) by simp[Sp.op2];omega]
  rcases hz with hz | hz
  ·go_enter Tryz.func243,Tryz.ntmps243
   go_wp2_with fail
   refine(dpop b D E (a :: T) fuel false w h (by simp;omega)).mono ?_
   rintro e w1 ⟨rfl,hd1,hb1⟩
   go_wp2_with fail
   refine(dpop a D E T fuel false w1 hd1 (by omega)).mono ?_
   rintro e w2 ⟨rfl,hd2,hb2⟩
   go_wp2_with fail
   refine(dpush b D E T fuel false w2 hd2 (by omega)).mono ?_
   rintro e w4 ⟨rfl,hd4,hb4⟩
   go_wp2
   exact bodyPost_end (results_none rfl _ _ _) rfl ⟨rfl,(hb1.trans hb2).trans hb4,hd4⟩
  ·go_enter Tryz.func243,Tryz.ntmps243
   go_wp2_with fail
   refine(dpop b D E (a :: T) fuel false w h (by simp;omega)).mono ?_
   rintro e w1 ⟨rfl,hd1,hb1⟩
   go_wp2_with fail
   refine(dpop a D E T fuel false w1 hd1 (by omega)).mono ?_
   rintro e w2 ⟨rfl,hd2,hb2⟩
   go_wp2_with fail
   refine(dpush b D E T fuel false w2 hd2 (by omega)).mono ?_
   rintro e w4 ⟨rfl,hd4,hb4⟩
   go_wp2
   exact bodyPost_end (results_none rfl _ _ _) rfl ⟨rfl,(hb1.trans hb2).trans hb4,hd4⟩
 ·rw[show Sp.op2 [109,105,110] a b=some (a) by simp[Sp.op2];omega]
  rcases hz with hz | hz
  ·go_enter Tryz.func243,Tryz.ntmps243
   go_wp2_with fail
   refine(dpop b D E (a :: T) fuel false w h (by simp;omega)).mono ?_
   rintro e w1 ⟨rfl,hd1,hb1⟩
   go_wp2_with fail
   refine(dpop a D E T fuel false w1 hd1 (by omega)).mono ?_
   rintro e w2 ⟨rfl,hd2,hb2⟩
   go_wp2_with fail
   refine(dpush a D E T fuel false w2 hd2 (by omega)).mono ?_
   rintro e w4 ⟨rfl,hd4,hb4⟩
   go_wp2
   exact bodyPost_end (results_none rfl _ _ _) rfl ⟨rfl,(hb1.trans hb2).trans hb4,hd4⟩
  ·go_enter Tryz.func243,Tryz.ntmps243
   go_wp2_with fail
   refine(dpop b D E (a :: T) fuel false w h (by simp;omega)).mono ?_
   rintro e w1 ⟨rfl,hd1,hb1⟩
   go_wp2_with fail
   refine(dpop a D E T fuel false w1 hd1 (by omega)).mono ?_
   rintro e w2 ⟨rfl,hd2,hb2⟩
   go_wp2_with fail
   refine(dpush a D E T fuel false w2 hd2 (by omega)).mono ?_
   rintro e w4 ⟨rfl,hd4,hb4⟩
   go_wp2
   exact bodyPost_end (results_none rfl _ _ _) rfl ⟨rfl,(hb1.trans hb2).trans hb4,hd4⟩
theorem dtwo_max (a b:Int) (D:Nat) (E:Sp.Ev) (T:List Int) (fuel:Int) (w:World) (h:DogS w D E (b :: a :: T) fuel false) (hT:T.length≤1000):Calls Tryz.prog 243 #[.pointer (some ⟨D,0,none⟩),.string ⟨#[109,97,120]⟩] w (DPost ((Sp.op2 [109,97,120] a b).map (· :: T)) D E fuel w):=by
 have hz:(b == 0)=true∨(b == 0)=false:=by cases (b == 0) <;> simp
 by_cases hc:a < b
 ·rw[show Sp.op2 [109,97,120] a b=some (b) by simp[Sp.op2];omega]
  rcases hz with hz | hz
  ·go_enter Tryz.func243,Tryz.ntmps243
   go_wp2_with fail
   refine(dpop b D E (a :: T) fuel false w h (by simp;omega)).mono ?_
   rintro e w1 ⟨rfl,hd1,hb1⟩
   go_wp2_with fail
   refine(dpop a D E T fuel false w1 hd1 (by omega)).mono ?_
   rintro e w2 ⟨rfl,hd2,hb2⟩
   go_wp2_with fail
   refine(dpush b D E T fuel false w2 hd2 (by omega)).mono ?_
   rintro e w4 ⟨rfl,hd4,hb4⟩
   go_wp2
   exact bodyPost_end (results_none rfl _ _ _) rfl ⟨rfl,(hb1.trans hb2).trans hb4,hd4⟩
  ·go_enter Tryz.func243,Tryz.ntmps243
   go_wp2_with fail
   refine(dpop b D E (a :: T) fuel false w h (by simp;omega)).mono ?_
   rintro e w1 ⟨rfl,hd1,hb1⟩
   go_wp2_with fail
   refine(dpop a D E T fuel false w1 hd1 (by omega)).mono ?_
   rintro e w2 ⟨rfl,hd2,hb2⟩
   go_wp2_with fail
   refine(dpush b D E T fuel false w2 hd2 (by omega)).mono ?_
   rintro e w4 ⟨rfl,hd4,hb4⟩
   go_wp2
   exact bodyPost_end (results_none rfl _ _ _) rfl ⟨rfl,(hb1.trans hb2).trans hb4,hd4⟩
 ·rw[show Sp.op2 [109,97,120] a b=some (a) by simp[Sp.op2];omega]
  rcases hz with hz | hz
  ·go_enter Tryz.func243,Tryz.ntmps243
   go_wp2_with fail
   refine(dpop b D E (a :: T) fuel false w h (by simp;omega)).mono ?_
   rintro e w1 ⟨rfl,hd1,hb1⟩
   go_wp2_with fail
   refine(dpop a D E T fuel false w1 hd1 (by omega)).mono ?_
   rintro e w2 ⟨rfl,hd2,hb2⟩
   go_wp2_with fail
   refine(dpush a D E T fuel false w2 hd2 (by omega)).mono ?_
   rintro e w4 ⟨rfl,hd4,hb4⟩
   go_wp2
   exact bodyPost_end (results_none rfl _ _ _) rfl ⟨rfl,(hb1.trans hb2).trans hb4,hd4⟩
  ·go_enter Tryz.func243,Tryz.ntmps243
   go_wp2_with fail
   refine(dpop b D E (a :: T) fuel false w h (by simp;omega)).mono ?_
   rintro e w1 ⟨rfl,hd1,hb1⟩
   go_wp2_with fail
   refine(dpop a D E T fuel false w1 hd1 (by omega)).mono ?_
   rintro e w2 ⟨rfl,hd2,hb2⟩
   go_wp2_with fail
   refine(dpush a D E T fuel false w2 hd2 (by omega)).mono ?_
   rintro e w4 ⟨rfl,hd4,hb4⟩
   go_wp2
   exact bodyPost_end (results_none rfl _ _ _) rfl ⟨rfl,(hb1.trans hb2).trans hb4,hd4⟩
theorem dtwo (x:ByteArray) (hx:x.data.toList ∈ Sp.twosL) (a b:Int) (D:Nat) (E:Sp.Ev) (T:List Int) (fuel:Int) (w:World) (h:DogS w D E (b :: a :: T) fuel false) (hT:T.length≤1000):Calls Tryz.prog 243 #[.pointer (some ⟨D,0,none⟩),.string x] w (DPost ((Sp.op2 x.data.toList a b).map (· :: T)) D E fuel w):=by
 obtain⟨⟨l⟩⟩:=x
 simp only[Sp.twosL,List.mem_cons,List.not_mem_nil,or_false] at hx
 rcases hx with rfl | rfl | rfl | rfl | rfl | rfl | rfl | rfl | rfl
 ·exact dtwo_add a b D E T fuel w h hT
 ·exact dtwo_sub a b D E T fuel w h hT
 ·exact dtwo_mul a b D E T fuel w h hT
 ·exact dtwo_quo a b D E T fuel w h hT
 ·exact dtwo_rem a b D E T fuel w h hT
 ·exact dtwo_lss a b D E T fuel w h hT
 ·exact dtwo_eql a b D E T fuel w h hT
 ·exact dtwo_min a b D E T fuel w h hT
 ·exact dtwo_max a b D E T fuel w h hT
theorem dturn_dup (a:Int) (D:Nat) (E:Sp.Ev) (T:List Int) (fuel:Int) (w:World) (h:DogS w D E (a :: T) fuel false) (hT:T.length≤1000):Calls Tryz.prog 244 #[.pointer (some ⟨D,0,none⟩),.string ⟨#[100,117,112]⟩] w (DPost (Sp.weff E [100,117,112] (a :: T)) D E fuel w):=by
 rw[show Sp.weff E [100,117,112] (a :: T)=some (a :: a :: T) by unfold Sp.weff;rw[show Sp.number [100,117,112]=none by decide];simp[Sp.loadsL,Sp.twosL]]
 go_enter Tryz.func244,Tryz.ntmps244
 go_wp2_with fail
 refine(dpop a D E (T) fuel false w h (by(try simp);omega)).mono ?_
 rintro e w1 ⟨rfl,hd1,hb1⟩
 go_wp2_with fail
 refine(dpush a D E (T) fuel false w1 hd1 (by(try simp);omega)).mono ?_
 rintro e w2 ⟨rfl,hd2,hb2⟩
 go_wp2_with fail
 refine(dpush a D E (a :: T) fuel false w2 hd2 (by(try simp);omega)).mono ?_
 rintro e w3 ⟨rfl,hd3,hb3⟩
 go_wp2
 exact bodyPost_end (results_none rfl _ _ _) rfl ⟨rfl,((hb1).trans hb2).trans hb3,hd3⟩
theorem dturn_drop (a:Int) (D:Nat) (E:Sp.Ev) (T:List Int) (fuel:Int) (w:World) (h:DogS w D E (a :: T) fuel false) (hT:T.length≤1000):Calls Tryz.prog 244 #[.pointer (some ⟨D,0,none⟩),.string ⟨#[100,114,111,112]⟩] w (DPost (Sp.weff E [100,114,111,112] (a :: T)) D E fuel w):=by
 rw[show Sp.weff E [100,114,111,112] (a :: T)=some (T) by unfold Sp.weff;rw[show Sp.number [100,114,111,112]=none by decide];simp[Sp.loadsL,Sp.twosL]]
 go_enter Tryz.func244,Tryz.ntmps244
 go_wp2_with fail
 refine(dpop a D E (T) fuel false w h (by(try simp);omega)).mono ?_
 rintro e w1 ⟨rfl,hd1,hb1⟩
 go_wp2
 exact bodyPost_end (results_none rfl _ _ _) rfl ⟨rfl,hb1,hd1⟩
theorem dturn_swap (a b:Int) (D:Nat) (E:Sp.Ev) (T:List Int) (fuel:Int) (w:World) (h:DogS w D E (b :: a :: T) fuel false) (hT:T.length≤1000):Calls Tryz.prog 244 #[.pointer (some ⟨D,0,none⟩),.string ⟨#[115,119,97,112]⟩] w (DPost (Sp.weff E [115,119,97,112] (b :: a :: T)) D E fuel w):=by
 rw[show Sp.weff E [115,119,97,112] (b :: a :: T)=some (a :: b :: T) by unfold Sp.weff;rw[show Sp.number [115,119,97,112]=none by decide];simp[Sp.loadsL,Sp.twosL]]
 go_enter Tryz.func244,Tryz.ntmps244
 go_wp2_with fail
 refine(dpop b D E (a :: T) fuel false w h (by(try simp);omega)).mono ?_
 rintro e w1 ⟨rfl,hd1,hb1⟩
 go_wp2_with fail
 refine(dpop a D E (T) fuel false w1 hd1 (by(try simp);omega)).mono ?_
 rintro e w2 ⟨rfl,hd2,hb2⟩
 go_wp2_with fail
 refine(dpush b D E (T) fuel false w2 hd2 (by(try simp);omega)).mono ?_
 rintro e w3 ⟨rfl,hd3,hb3⟩
 go_wp2_with fail
 refine(dpush a D E (b :: T) fuel false w3 hd3 (by(try simp);omega)).mono ?_
 rintro e w4 ⟨rfl,hd4,hb4⟩
 go_wp2
 exact bodyPost_end (results_none rfl _ _ _) rfl ⟨rfl,(((hb1).trans hb2).trans hb3).trans hb4,hd4⟩
theorem dturn_over (a b:Int) (D:Nat) (E:Sp.Ev) (T:List Int) (fuel:Int) (w:World) (h:DogS w D E (b :: a :: T) fuel false) (hT:T.length≤1000):Calls Tryz.prog 244 #[.pointer (some ⟨D,0,none⟩),.string ⟨#[111,118,101,114]⟩] w (DPost (Sp.weff E [111,118,101,114] (b :: a :: T)) D E fuel w):=by
 rw[show Sp.weff E [111,118,101,114] (b :: a :: T)=some (a :: b :: a :: T) by unfold Sp.weff;rw[show Sp.number [111,118,101,114]=none by decide];simp[Sp.loadsL,Sp.twosL]]
 go_enter Tryz.func244,Tryz.ntmps244
 go_wp2_with fail
 refine(dpop b D E (a :: T) fuel false w h (by(try simp);omega)).mono ?_
 rintro e w1 ⟨rfl,hd1,hb1⟩
 go_wp2_with fail
 refine(dpop a D E (T) fuel false w1 hd1 (by(try simp);omega)).mono ?_
 rintro e w2 ⟨rfl,hd2,hb2⟩
 go_wp2_with fail
 refine(dpush a D E (T) fuel false w2 hd2 (by(try simp);omega)).mono ?_
 rintro e w3 ⟨rfl,hd3,hb3⟩
 go_wp2_with fail
 refine(dpush b D E (a :: T) fuel false w3 hd3 (by(try simp);omega)).mono ?_
 rintro e w4 ⟨rfl,hd4,hb4⟩
 go_wp2_with fail
 refine(dpush a D E (b :: a :: T) fuel false w4 hd4 (by(try simp);omega)).mono ?_
 rintro e w5 ⟨rfl,hd5,hb5⟩
 go_wp2
 exact bodyPost_end (results_none rfl _ _ _) rfl ⟨rfl,((((hb1).trans hb2).trans hb3).trans hb4).trans hb5,hd5⟩
theorem dturn_pick (a b c:Int) (D:Nat) (E:Sp.Ev) (T:List Int) (fuel:Int) (w:World) (h:DogS w D E (c :: b :: a :: T) fuel false) (hT:T.length≤1000):Calls Tryz.prog 244 #[.pointer (some ⟨D,0,none⟩),.string ⟨#[63]⟩] w (DPost (Sp.weff E [63] (c :: b :: a :: T)) D E fuel w):=by
 by_cases hcz:a=0
 ·have hcb:(a != 0)=false:=by simp[hcz]
  rw[show Sp.weff E [63] (c :: b :: a :: T)=some (c :: T) by unfold Sp.weff;rw[show Sp.number [63]=none by decide];simp[Sp.loadsL,Sp.twosL,hcz]]
  go_enter Tryz.func244,Tryz.ntmps244
  go_wp2_with fail
  refine(dpop c D E (b :: a :: T) fuel false w h (by(try simp);omega)).mono ?_
  rintro e w1 ⟨rfl,hd1,hb1⟩
  go_wp2_with fail
  refine(dpop b D E (a :: T) fuel false w1 hd1 (by(try simp);omega)).mono ?_
  rintro e w2 ⟨rfl,hd2,hb2⟩
  go_wp2_with fail
  refine(dpop a D E (T) fuel false w2 hd2 (by(try simp);omega)).mono ?_
  rintro e w3 ⟨rfl,hd3,hb3⟩
  go_wp2_with fail
  refine(dpush c D E (T) fuel false w3 hd3 (by(try simp);omega)).mono ?_
  rintro e w4 ⟨rfl,hd4,hb4⟩
  go_wp2
  exact bodyPost_end (results_none rfl _ _ _) rfl ⟨rfl,(((hb1).trans hb2).trans hb3).trans hb4,hd4⟩
 ·have hcb:(a != 0)=true:=by simp[hcz]
  rw[show Sp.weff E [63] (c :: b :: a :: T)=some (b :: T) by unfold Sp.weff;rw[show Sp.number [63]=none by decide];simp[Sp.loadsL,Sp.twosL,hcz]]
  go_enter Tryz.func244,Tryz.ntmps244
  go_wp2_with fail
  refine(dpop c D E (b :: a :: T) fuel false w h (by(try simp);omega)).mono ?_
  rintro e w1 ⟨rfl,hd1,hb1⟩
  go_wp2_with fail
  refine(dpop b D E (a :: T) fuel false w1 hd1 (by(try simp);omega)).mono ?_
  rintro e w2 ⟨rfl,hd2,hb2⟩
  go_wp2_with fail
  refine(dpop a D E (T) fuel false w2 hd2 (by(try simp);omega)).mono ?_
  rintro e w3 ⟨rfl,hd3,hb3⟩
  go_wp2_with fail
  refine(dpush b D E (T) fuel false w3 hd3 (by(try simp);omega)).mono ?_
  rintro e w4 ⟨rfl,hd4,hb4⟩
  go_wp2
  exact bodyPost_end (results_none rfl _ _ _) rfl ⟨rfl,(((hb1).trans hb2).trans hb3).trans hb4,hd4⟩
theorem dstands (x:ByteArray) (hx:x.data.toList ∈ Sp.loadsL∨x.data.toList=[119,101,105,103,104,116]) (E:Sp.Ev) (w:World):Calls Tryz.prog 242 #[.agg #[.int .i64 E.value,.int .i64 E.old,.int .i64 E.inn,.int .i64 E.got,.int .i64 E.step,.int .i64 E.id,.int .i64 E.deg,.int .i64 E.all,.int .i64 E.weight],.string x] w fun e w'=>e = .returned (.int .i64 (Sp.ldv E x.data.toList))∧Below w.heap.size w w':=by
 obtain⟨⟨l⟩⟩:=x
 simp only[Sp.loadsL,List.mem_cons,List.not_mem_nil,or_false] at hx
 rcases hx with (rfl | rfl | rfl | rfl | rfl | rfl | rfl | rfl) | rfl
 all_goals
  simp only[Sp.ldv]
  go_enter Tryz.func242,Tryz.ntmps242
  go_wp2
  go_ret
  exact⟨by simp,(Below.refl _ _).alloc nlr _⟩
end Go.Proofs.YteflnddphpjahaaGreatDoor
