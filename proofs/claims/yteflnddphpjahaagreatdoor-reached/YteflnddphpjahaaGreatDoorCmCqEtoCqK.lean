import Derived.Test.YteflnddphpjahaaGreatDoorCmSrtAtoCqD
import Derived.Deep.RegionLaw
import Derived.Test.YteflnddphpjahaaGreatDoorCmCardAtoCopyK
set_option linter.unusedVariables false
set_option linter.unusedSimpArgs false
set_option maxRecDepth 100000
set_option maxHeartbeats 16000000
namespace Go.Proofs.YteflnddphpjahaaGreatDoor
open Go.RowKit
theorem takeQuotient_ok (M at' fuel h:Nat) (code loops:Value) (w:World) (hd:Dry w M code at' fuel (h+2) loops) (hh:h+1 < 16):Calls Tryz.prog 187 #[.pointer (some ⟨M,0,none⟩)] w fun e w'=>e = .returned (.tuple #[.int .i64 1,.int .i64 1])∧Dry w' M code at' fuel h loops∧Only M w w':=by
 go_enter Tryz.func187,Tryz.ntmps187
 go_wp2_with fail
 refine(takeTwo_ok M at' fuel h code loops w hd hh).mono ?_
 rintro e w1 ⟨rfl,hd1,ho1⟩
 go_wp2
 exact bodyPost_ret (v := .tuple #[.int .i64 1,.int .i64 1]) (by simp[results,Tryz.results187,go_sem]) rfl ⟨rfl,hd1,ho1⟩
theorem takeQuotient_less (M at' fuel h:Nat) (code loops:Value) (w:World) (hd:Dry w M code at' fuel h loops) (hh:h < 2) (u:TypeId) (p:Value) (hM:5≠M) (he:w.cell? ⟨5,0,none⟩=some (.iface u p)):Calls Tryz.prog 187 #[.pointer (some ⟨M,0,none⟩)] w fun e w'=>e = .panicked [{ v := .iface u p,recovered:=false }]∧Only M w w':=by
 go_enter Tryz.func187,Tryz.ntmps187
 go_wp2_with fail
 refine(takeTwo_less M at' fuel h code loops w hd hh u p hM he).mono ?_
 rintro e w1 ⟨rfl,ho1⟩
 go_wp2
 exact⟨rfl,rfl,ho1⟩
theorem putTruth_ok (v:Bool) (M at' fuel h:Nat) (code loops:Value) (w:World) (hd:Dry w M code at' fuel h loops) (hh:h < 16):Calls Tryz.prog 190 #[.pointer (some ⟨M,0,none⟩),.bool v] w fun e w'=>e = .returned (.tuple #[])∧Dry w' M code at' fuel (h+1) loops∧Only M w w':=by
 cases v with
 | true =>
  go_enter Tryz.func190,Tryz.ntmps190
  go_wp2_with fail
  refine(put_ok 1 M at' fuel h code loops w hd hh).mono ?_
  rintro e w1 ⟨rfl,hd1,ho1⟩
  go_wp2
  exact bodyPost_end (results_none rfl _ _ _) rfl ⟨rfl,hd1,ho1⟩
 | false =>
  go_enter Tryz.func190,Tryz.ntmps190
  go_wp2_with fail
  refine(put_ok 0 M at' fuel h code loops w hd hh).mono ?_
  rintro e w1 ⟨rfl,hd1,ho1⟩
  go_wp2
  exact bodyPost_end (results_none rfl _ _ _) rfl ⟨rfl,hd1,ho1⟩
theorem do_13:Does 186 2 1:=by
 intro M at' fuel h code loops u p w hd hv
 by_cases hh:h < 2
 ·go_enter Tryz.func186,Tryz.ntmps186
  go_wp2_with fail
  refine(takeQuotient_less M at' fuel h code loops w hd hh u p hv.hM hv.he).mono ?_
  rintro e w1 ⟨rfl,ho1⟩
  go_wp2
  exact⟨rfl,ho1,Or.inr ⟨by omega,rfl⟩⟩
 ·obtain⟨h,rfl⟩:∃ g,h=g+2:=⟨h - 2,by omega⟩
  have hle:=hv.hh
  go_enter Tryz.func186,Tryz.ntmps186
  go_wp2_with fail
  refine(takeQuotient_ok M at' fuel h code loops w hd (by omega)).mono ?_
  rintro e w1 ⟨rfl,hd1,ho1⟩
  go_wp2_with fail
  refine(put_ok _ M at' fuel h code loops w1 hd1 (by omega)).mono ?_
  rintro e w2 ⟨rfl,hd2,ho2⟩
  go_wp2
  exact bodyPost_end (results_none rfl _ _ _) rfl ⟨ho1.trans ho2,Or.inl ⟨by omega,by omega,rfl,hd2⟩⟩
theorem do_14:Does 188 2 1:=by
 intro M at' fuel h code loops u p w hd hv
 by_cases hh:h < 2
 ·go_enter Tryz.func188,Tryz.ntmps188
  go_wp2_with fail
  refine(takeQuotient_less M at' fuel h code loops w hd hh u p hv.hM hv.he).mono ?_
  rintro e w1 ⟨rfl,ho1⟩
  go_wp2
  exact⟨rfl,ho1,Or.inr ⟨by omega,rfl⟩⟩
 ·obtain⟨h,rfl⟩:∃ g,h=g+2:=⟨h - 2,by omega⟩
  have hle:=hv.hh
  go_enter Tryz.func188,Tryz.ntmps188
  go_wp2_with fail
  refine(takeQuotient_ok M at' fuel h code loops w hd (by omega)).mono ?_
  rintro e w1 ⟨rfl,hd1,ho1⟩
  go_wp2_with fail
  refine(put_ok _ M at' fuel h code loops w1 hd1 (by omega)).mono ?_
  rintro e w2 ⟨rfl,hd2,ho2⟩
  go_wp2
  exact bodyPost_end (results_none rfl _ _ _) rfl ⟨ho1.trans ho2,Or.inl ⟨by omega,by omega,rfl,hd2⟩⟩
theorem do_15:Does 189 2 1:=by
 intro M at' fuel h code loops u p w hd hv
 by_cases hh:h < 2
 ·go_enter Tryz.func189,Tryz.ntmps189
  go_wp2_with fail
  refine(takeTwo_less M at' fuel h code loops w hd hh u p hv.hM hv.he).mono ?_
  rintro e w1 ⟨rfl,ho1⟩
  go_wp2
  exact⟨rfl,ho1,Or.inr ⟨by omega,rfl⟩⟩
 ·obtain⟨h,rfl⟩:∃ g,h=g+2:=⟨h - 2,by omega⟩
  have hle:=hv.hh
  go_enter Tryz.func189,Tryz.ntmps189
  go_wp2_with fail
  refine(takeTwo_ok M at' fuel h code loops w hd (by omega)).mono ?_
  rintro e w1 ⟨rfl,hd1,ho1⟩
  go_wp2_with fail
  refine(putTruth_ok _ M at' fuel h code loops w1 hd1 (by omega)).mono ?_
  rintro e w2 ⟨rfl,hd2,ho2⟩
  go_wp2
  exact bodyPost_end (results_none rfl _ _ _) rfl ⟨ho1.trans ho2,Or.inl ⟨by omega,by omega,rfl,hd2⟩⟩
theorem do_16:Does 191 2 1:=by
 intro M at' fuel h code loops u p w hd hv
 by_cases hh:h < 2
 ·go_enter Tryz.func191,Tryz.ntmps191
  go_wp2_with fail
  refine(takeTwo_less M at' fuel h code loops w hd hh u p hv.hM hv.he).mono ?_
  rintro e w1 ⟨rfl,ho1⟩
  go_wp2
  exact⟨rfl,ho1,Or.inr ⟨by omega,rfl⟩⟩
 ·obtain⟨h,rfl⟩:∃ g,h=g+2:=⟨h - 2,by omega⟩
  have hle:=hv.hh
  go_enter Tryz.func191,Tryz.ntmps191
  go_wp2_with fail
  refine(takeTwo_ok M at' fuel h code loops w hd (by omega)).mono ?_
  rintro e w1 ⟨rfl,hd1,ho1⟩
  go_wp2_with fail
  refine(putTruth_ok _ M at' fuel h code loops w1 hd1 (by omega)).mono ?_
  rintro e w2 ⟨rfl,hd2,ho2⟩
  go_wp2
  exact bodyPost_end (results_none rfl _ _ _) rfl ⟨ho1.trans ho2,Or.inl ⟨by omega,by omega,rfl,hd2⟩⟩
theorem do_20:Does 196 1 0:=by
 intro M at' fuel h code loops u p w hd hv
 have hle:=hv.hh
 match h,hd,hle with
 | 0,hd,_ =>
  go_enter Tryz.func196,Tryz.ntmps196
  go_wp2_with fail
  refine(take_none M at' fuel code loops w hd u p hv.he).mono ?_
  rintro e w1 ⟨rfl,rfl⟩
  go_wp2
  exact⟨rfl,Only.refl _ _,Or.inr ⟨by omega,rfl⟩⟩
 | h+1,hd,hle =>
  go_enter Tryz.func196,Tryz.ntmps196
  go_wp2_with fail
  refine(take_ok M at' fuel h code loops w hd (by omega)).mono ?_
  rintro e w1 ⟨rfl,hd1,ho1⟩
  go_wp2
  exact bodyPost_end (results_none rfl _ _ _) rfl ⟨ho1,Or.inl ⟨by omega,by omega,rfl,hd1⟩⟩
theorem do_21:Does 197 2 2:=by
 intro M at' fuel h code loops u p w hd hv
 by_cases hh:h < 2
 ·go_enter Tryz.func197,Tryz.ntmps197
  go_wp2_with fail
  refine(takeTwo_less M at' fuel h code loops w hd hh u p hv.hM hv.he).mono ?_
  rintro e w1 ⟨rfl,ho1⟩
  go_wp2
  exact⟨rfl,ho1,Or.inr ⟨by omega,rfl⟩⟩
 ·obtain⟨h,rfl⟩:∃ g,h=g+2:=⟨h - 2,by omega⟩
  have hle:=hv.hh
  go_enter Tryz.func197,Tryz.ntmps197
  go_wp2_with fail
  refine(takeTwo_ok M at' fuel h code loops w hd (by omega)).mono ?_
  rintro e w1 ⟨rfl,hd1,ho1⟩
  go_wp2_with fail
  refine(put_ok _ M at' fuel h code loops w1 hd1 (by omega)).mono ?_
  rintro e w2 ⟨rfl,hd2,ho2⟩
  go_wp2_with fail
  refine(put_ok _ M at' fuel (h+1) code loops w2 hd2 (by omega)).mono ?_
  rintro e w3 ⟨rfl,hd3,ho3⟩
  go_wp2
  exact bodyPost_end (results_none rfl _ _ _) rfl ⟨(ho1.trans ho2).trans ho3,Or.inl ⟨by omega,by omega,rfl,hd3⟩⟩
theorem do_19:Does 194 1 2:=by
 intro M at' fuel h code loops u p w hd hv
 have hle:=hv.hh
 match h,hd,hle with
 | 0,hd,_ =>
  go_enter Tryz.func194,Tryz.ntmps194
  go_wp2_with fail
  refine(take_none M at' fuel code loops w hd u p hv.he).mono ?_
  rintro e w1 ⟨rfl,rfl⟩
  go_wp2
  exact⟨rfl,Only.refl _ _,Or.inr ⟨by omega,rfl⟩⟩
 | h+1,hd,hle =>
  go_enter Tryz.func194,Tryz.ntmps194
  go_wp2_with fail
  refine(take_ok M at' fuel h code loops w hd (by omega)).mono ?_
  rintro e w1 ⟨rfl,hd1,ho1⟩
  go_wp2_with fail
  refine(put_ok _ M at' fuel h code loops w1 hd1 (by omega)).mono ?_
  rintro e w2 ⟨rfl,hd2,ho2⟩
  by_cases hf:h+1 < 16
  ·go_wp2_with fail
   refine(put_ok _ M at' fuel (h+1) code loops w2 hd2 hf).mono ?_
   rintro e w3 ⟨rfl,hd3,ho3⟩
   go_wp2
   exact bodyPost_end (results_none rfl _ _ _) rfl ⟨(ho1.trans ho2).trans ho3,Or.inl ⟨by omega,by omega,rfl,hd3⟩⟩
  ·go_wp2_with fail
   refine(put_full _ M at' fuel (h+1) code loops w2 hd2 (by omega) u p (((ho1.trans ho2).cell hv.hM).trans hv.he)).mono ?_
   rintro e w3 ⟨rfl,rfl⟩
   go_wp2
   exact⟨rfl,ho1.trans ho2,Or.inr ⟨by omega,rfl⟩⟩
theorem do_22:Does 198 2 3:=by
 intro M at' fuel h code loops u p w hd hv
 by_cases hh:h < 2
 ·go_enter Tryz.func198,Tryz.ntmps198
  go_wp2_with fail
  refine(takeTwo_less M at' fuel h code loops w hd hh u p hv.hM hv.he).mono ?_
  rintro e w1 ⟨rfl,ho1⟩
  go_wp2
  exact⟨rfl,ho1,Or.inr ⟨by omega,rfl⟩⟩
 ·obtain⟨h,rfl⟩:∃ g,h=g+2:=⟨h - 2,by omega⟩
  have hle:=hv.hh
  go_enter Tryz.func198,Tryz.ntmps198
  go_wp2_with fail
  refine(takeTwo_ok M at' fuel h code loops w hd (by omega)).mono ?_
  rintro e w1 ⟨rfl,hd1,ho1⟩
  go_wp2_with fail
  refine(put_ok _ M at' fuel h code loops w1 hd1 (by omega)).mono ?_
  rintro e w2 ⟨rfl,hd2,ho2⟩
  go_wp2_with fail
  refine(put_ok _ M at' fuel (h+1) code loops w2 hd2 (by omega)).mono ?_
  rintro e w3 ⟨rfl,hd3,ho3⟩
  have ho:=(ho1.trans ho2).trans ho3
  by_cases hf:h+2 < 16
  ·go_wp2_with fail
   refine(put_ok _ M at' fuel (h+2) code loops w3 hd3 hf).mono ?_
   rintro e w4 ⟨rfl,hd4,ho4⟩
   go_wp2
   exact bodyPost_end (results_none rfl _ _ _) rfl ⟨ho.trans ho4,Or.inl ⟨by omega,by omega,rfl,hd4⟩⟩
  ·go_wp2_with fail
   refine(put_full _ M at' fuel (h+2) code loops w3 hd3 (by omega) u p ((ho.cell hv.hM).trans hv.he)).mono ?_
   rintro e w4 ⟨rfl,rfl⟩
   go_wp2
   exact⟨rfl,ho,Or.inr ⟨by omega,rfl⟩⟩
theorem choose_any:Does 200 3 1:=by
 intro M at' fuel h code loops u p w hd hv
 by_cases hh:h < 2
 ·go_enter Tryz.func200,Tryz.ntmps200
  go_wp2_with fail
  refine(takeTwo_less M at' fuel h code loops w hd hh u p hv.hM hv.he).mono ?_
  rintro e w1 ⟨rfl,ho1⟩
  go_wp2
  exact⟨rfl,ho1,Or.inr ⟨by omega,rfl⟩⟩
 ·obtain⟨h,rfl⟩:∃ g,h=g+2:=⟨h - 2,by omega⟩
  have hle:=hv.hh
  go_enter Tryz.func200,Tryz.ntmps200
  go_wp2_with fail
  refine(takeTwo_ok M at' fuel h code loops w hd (by omega)).mono ?_
  rintro e w1 ⟨rfl,hd1,ho1⟩
  match h,hd1,hle with
  | 0,hd1,_ =>
   go_wp2_with fail
   refine(take_none M at' fuel code loops w1 hd1 u p ((ho1.cell hv.hM).trans hv.he)).mono ?_
   rintro e w2 ⟨rfl,rfl⟩
   go_wp2
   exact⟨rfl,ho1,Or.inr ⟨by omega,rfl⟩⟩
  | h+1,hd1,hle =>
   go_wp2_with fail
   refine(take_ok M at' fuel h code loops w1 hd1 (by omega)).mono ?_
   rintro e w2 ⟨rfl,hd2,ho2⟩
   go_wp2_with fail
   refine(put_ok _ M at' fuel h code loops w2 hd2 (by omega)).mono ?_
   rintro e w3 ⟨rfl,hd3,ho3⟩
   go_wp2
   exact bodyPost_end (results_none rfl _ _ _) rfl ⟨(ho1.trans ho2).trans ho3,Or.inl ⟨by omega,by omega,rfl,hd3⟩⟩
theorem do_23:Does 199 3 1:=by
 intro M at' fuel h code loops u p w hd hv
 go_enter Tryz.func199,Tryz.ntmps199
 go_wp2_with fail
 refine(choose_any M at' fuel h code loops u p w hd hv).mono ?_
 rintro e w1 ⟨ho,⟨g1,g2,rfl,hd1⟩ | ⟨g,rfl⟩⟩
 ·go_wp2
  exact bodyPost_end (results_none rfl _ _ _) rfl ⟨ho,Or.inl ⟨g1,g2,rfl,hd1⟩⟩
 ·go_wp2
  exact⟨rfl,ho,Or.inr ⟨g,rfl⟩⟩
theorem do_num (B:Nat) (n:Int) (M at' fuel h:Nat) (code loops:Value) (u:TypeId) (p:Value) (w:World) (hd:Dry w M code at' fuel h loops) (hv:DryEnv M h u p w) (hn:w.cell? ⟨B,0,none⟩=some (.int .i64 n)) :
  Calls Tryz.prog 300 #[.pointer (some ⟨M,0,none⟩),.pointer (some ⟨B,0,none⟩)] w (DoPost 0 1 M at' fuel h code loops u p w):=by
 by_cases hh:h < 16
 ·go_enter Tryz.func300,Tryz.ntmps300
  go_wp2_with fail
  refine(put_ok n M at' fuel h code loops w hd hh).mono ?_
  rintro e w1 ⟨rfl,hd1,ho1⟩
  go_wp2
  exact bodyPost_end (results_none rfl _ _ _) rfl ⟨ho1,Or.inl ⟨Nat.zero_le _,by omega,rfl,hd1⟩⟩
 ·go_enter Tryz.func300,Tryz.ntmps300
  go_wp2_with fail
  refine(put_full n M at' fuel h code loops w hd (by have:=hv.hh;omega) u p hv.he).mono ?_
  rintro e w1 ⟨rfl,rfl⟩
  go_wp2
  exact⟨rfl,Only.refl _ _,Or.inr ⟨by omega,rfl⟩⟩
theorem Tryz.info_loop:(Tryz.prog.info? 379).map (fun i=>(i.zero,i.size,i.bytes))=some (some (.agg #[.int .i64 0,.int .i64 0]),2,16):=by kernel_rfl
theorem Dry.lt {w:World} {M at' fuel h:Nat} {code loops:Value} (hd:Dry w M code at' fuel h loops):M < w.heap.size:=World.block_lt_of_cell? w _ hd.c0
theorem Dry.far {w w':World} {M at' fuel h:Nat} {code loops:Value} (hd:Dry w M code at' fuel h loops) (hc:∀ j,w'.cell? ⟨M,j,none⟩=w.cell? ⟨M,j,none⟩) (hf:∀ j,w'.frozen? ⟨M,j,none⟩=w.frozen? ⟨M,j,none⟩):Dry w' M code at' fuel h loops :=
 ⟨(hc 0).trans hd.c0,(hc 1).trans hd.c1,(hc 2).trans hd.c2,fun j hj=>by rw[hc];exact hd.sg j hj,fun j hj=>by rw[hc];exact hd.st j hj,(hc 28).trans hd.hh,(hc 29).trans hd.ll,(hc 30).trans hd.dr,fun j=>(hf j).trans (hd.fz j)⟩
theorem Dry.alloc {w:World} {M at' fuel h:Nat} {code loops:Value} (hd:Dry w M code at' fuel h loops) (o:Obj):Dry (w.alloc o) M code at' fuel h loops :=
 hd.far (fun j=>((Below.refl w.heap.size w).alloc nlr o).cell (p:=⟨M,j,none⟩) hd.lt) (fun j=>((Below.refl w.heap.size w).alloc nlr o).frozen (p:=⟨M,j,none⟩) hd.lt)
theorem Dry.grown {w w':World} {M at' fuel h:Nat} {code loops:Value} {row:Option Nat} (hd:Dry w M code at' fuel h loops) (hg:w.grownBy w' row) (hne:some M≠row):Dry w' M code at' fuel h loops :=
 hd.far (fun j=>hg.cell_far ⟨M,j,none⟩ hd.lt hne) (fun j=>hg.frozen_far ⟨M,j,none⟩ hd.lt hne)
theorem Dry.lps {w:World} {M at' fuel h:Nat} {code loops:Value} (hd:Dry w M code at' fuel h loops) (l':Value):Dry (w.setCell ⟨M,29,none⟩ l') M code at' fuel h l':=by
 obtain⟨c0,c1,c2,sg,st,hh,ll,dr,fz⟩:=hd
 refine⟨?_,?_,?_,fun j hj=>?_,fun j hj=>?_,?_,?_,?_,fun j=>?_⟩
 ·rw[cso (by omega)];exact c0
 ·rw[cso (by omega)];exact c1
 ·rw[cso (by omega)];exact c2
 ·rw[cso (by omega)];exact sg j hj
 ·rw[cso (by omega)];exact st j hj
 ·rw[cso (by omega)];exact hh
 ·exact World.cell?_setCell_same _ _ _ ll
 ·rw[cso (by omega)];exact dr
 ·rw[World.frozen?_setCell];exact fz j
theorem Only.own {M:Nat} {w w':World} (h:Only M w w') {e size n:Nat} {v:Value} {xs:List Value} (ho:w.ownsRow (M+1) e size v n xs):w'.ownsRow (M+1) e size v n xs:=by
 obtain⟨h1,h2⟩:=ho
 refine⟨h1,?_⟩
 rcases h2 with h2 | ⟨g,cap,cur,hv,hB,hg,r⟩
 ·exact .inl h2
 ·exact .inr ⟨g,cap,cur,hv,hB,(h.2 g (by omega)).trans hg,r⟩
theorem begin_ok (M at' fuel h n:Nat) (code x:Value) (xs:List Value) (w:World) (hd:Dry w M code at' fuel (h+1) x) (hle:h+1≤16) (hn:n≤10000) (ho:w.ownsRow (M+1) 379 2 x n xs) :
  Calls Tryz.prog 202 #[.pointer (some ⟨M,0,none⟩)] w fun e w'=>e = .returned (.tuple #[])∧∃ x',Dry w' M code at' fuel h x'∧w'.ownsRow (M+1) 379 2 x' (n+1) (xs++[.int .i64 1,.int .i64 h])∧Below M w w':=by
 obtain⟨t2,ht2,hva,hvb,hvc⟩:=info_parts Tryz.info_loop
 go_enter Tryz.func202,Tryz.ntmps202
 go_wp2_with fail
 refine(take_ok M at' fuel h code x w hd (by omega)).mono ?_
 rintro e w1 ⟨rfl,hd1,ho1⟩
 have hr:w1.ownsRow (M+1) 379 2 x n xs:=ho1.own ho
 have hml:=hd1.lt
 have e1:=hd1.hh
 have e2:=hd1.ll
 have e3:=hd1.fz 29
 have hne2:some M≠x.ownBlock:=fun e=>by have:=(hr.lt M e.symm).1;omega
 go_wp2_with fail
 go_region_law ((refine step_append_lies _ (by rfl) _ _ _ (by rfl) (M+1) 379 t2 _ 2 16 Tryz.underlying257 ht2 hva hvb hvc rfl (by omega) x _ _ (by rfl) ((hr.alloc _).drew) ⟨w1.heap.size,0,none⟩ 1 1 [.int .i64 1,.int .i64 (h:Int)] (by rfl) (by rfl) (World.news_of_block (cs := #[.int .i64 1,.int .i64 (h:Int)]) (t:=379) (fr:=(0,0)) (heap_alloc_new w1 _)) (by simp[Value.oneCell']) (by omega) (by unfold maxLen;omega) (by omega) (by simp;omega) (w1.heap.size+1) (by simp) ?_;intro gg cp w2 hown1 hgrow hat hlt1;have hq0:w2.cell? ⟨M,29,none⟩=some x:=(hgrow.cell_far ⟨M,29,none⟩ (by simp;omega) hne2).trans ((hd1.alloc _).drew).ll;have hq1:w2.frozen? ⟨M,29,none⟩=false:=(hgrow.frozen_far ⟨M,29,none⟩ (by simp;omega) hne2).trans (((hd1.alloc _).drew).fz 29)))
 all_goals
  have hb1:=below_app (((Below.refl M w1).alloc (Nat.le_of_lt hml) _).drew) ((hd1.alloc _).drew).lt ((hr.alloc _).drew) hgrow 29 (.slice (some ⟨gg,0,none⟩) (n+1) cp)
  exact bodyPost_end (results_none rfl _ _ _) rfl ⟨rfl,_,(((hd1.alloc _).drew).grown hgrow hne2).lps _,((Only.refl M w2).set _ _).own hown1,ho1.below.trans hb1⟩
theorem begin_none (M at' fuel:Nat) (code x:Value) (w:World) (hd:Dry w M code at' fuel 0 x) (u:TypeId) (p:Value) (he:w.cell? ⟨5,0,none⟩=some (.iface u p)) :
  Calls Tryz.prog 202 #[.pointer (some ⟨M,0,none⟩)] w fun e w'=>e = .panicked [{ v := .iface u p,recovered:=false }]∧w'=w:=by
 go_enter Tryz.func202,Tryz.ntmps202
 go_wp2_with fail
 refine(take_none M at' fuel code x w hd u p he).mono ?_
 rintro e w1 ⟨rfl,rfl⟩
 go_wp2
 exact⟨rfl,rfl,rfl⟩
theorem own_cut {w:World} {B e size n g cap:Nat} {ys:List Value} (h:w.ownsRow B e size (.slice (some ⟨g,0,none⟩) (n+1) cap) (n+1) ys):w.ownsRow B e size (.slice (some ⟨g,0,none⟩) n cap) n (ys.take (n * size)):=by
 obtain⟨h1,h2⟩:=h
 rcases h2 with ⟨h2,_⟩ | ⟨g',cap',cur,hv,hB,hg,r1,r2,r3,r4⟩
 ·cases h2
 ·cases hv
  have hle:n * size≤(n+1) * size:=Nat.mul_le_mul_right _ (by omega)
  refine⟨by rw[List.length_take,h1];omega,.inr ⟨g,cap,cur,rfl,hB,hg,by omega,r2,r3,?_⟩⟩
  rw[← r4,List.take_take,Nat.min_eq_left hle]
theorem end_ok (M at' fuel h n g cap:Nat) (code:Value) (xs:List Value) (w:World) (hd:Dry w M code at' fuel h (.slice (some ⟨g,0,none⟩) (n+1) cap)) (hn:n≤10000) (ho:w.ownsRow (M+1) 379 2 (.slice (some ⟨g,0,none⟩) (n+1) cap) (n+1) (xs++[.int .i64 1,.int .i64 h])) (hl:xs.length=n * 2) :
  Calls Tryz.prog 204 #[.pointer (some ⟨M,0,none⟩)] w fun e w'=>e = .returned (.tuple #[])∧Dry w' M code at' fuel h (.slice (some ⟨g,0,none⟩) n cap)∧w'.ownsRow (M+1) 379 2 (.slice (some ⟨g,0,none⟩) n cap) n xs∧Below M w w':=by
 have q0:w.cell? ⟨g,n * 2,none⟩=some (.int .i64 1):=(ho.cellAt (n * 2) (by omega)).trans (by rw[List.getElem?_append_right (by omega),hl];simp)
 have q1:w.cell? ⟨g,n * 2+1,none⟩=some (.int .i64 h):=(ho.cellAt (n * 2+1) (by omega)).trans (by rw[List.getElem?_append_right (by omega),hl];simp)
 have q2:=ho.frozenAt (n * 2)
 have hgM:M < g:=(ho.lt g rfl).1
 have hMg:M≠g:=by omega
 have hgm:g≠M:=by omega
 have hcap:n+1≤cap:=by
  rcases ho.2 with ⟨h0,_⟩ | ⟨g',cap',cur,hv,hB,hg,r⟩
  ·cases h0
  ·cases hv;exact r.1
 have hc0:(n:Int)≤(cap:Int):=by omega
 have hc1:n≤cap:=by omega
 have e1:=hd.hh
 have e2:=hd.ll
 have e3:=hd.fz 29
 have g0:((n+1:Nat):Int) - 1=(n:Int):=by omega
 have g1:(0:Int)≤(n:Int):=Int.natCast_nonneg _
 have g2:(n:Int) < ((n+1:Nat):Int):=by omega
 have g3:(((h:Nat):Int) != ((h:Nat):Int))=false:=by simp
 have HZ:Hid (∀ k,(fun w'=>Dry w' M code at' fuel h (.slice (some ⟨g,0,none⟩) n cap)∧w'.ownsRow (M+1) 379 2 (.slice (some ⟨g,0,none⟩) n cap) n xs∧Below M w w') ((((w.drewN k).setCell ⟨g,n * 2,none⟩ (.int .i64 0)).setCell ⟨M,29,none⟩ (.slice (some ⟨g,0,none⟩) n cap)).drew)):=by
  intro k
  have hbk:=below_drewN w k
  have hd1:Dry (w.drewN k) M code at' fuel h (.slice (some ⟨g,0,none⟩) (n+1) cap):=hd.far (fun j=>hbk.cell (p:=⟨M,j,none⟩) hd.lt) (fun j=>hbk.frozen (p:=⟨M,j,none⟩) hd.lt)
  have ho1:=obl ho hbk
  have hst:=ho1.stored (n * 2) (.int .i64 0)
  have hd2:=hd1.grown hst.2 (by simp[Value.ownBlock];omega)
  have ho2:=own_cut hst.1
  rw[List.set_append_right _ _ (by omega),List.take_left' (by omega)] at ho2
  have hb2:=((hbk.mono (Nat.le_of_lt hd.lt)).setCell (p:=⟨g,n * 2,none⟩) (Nat.le_of_lt hgM) (.int .i64 0)).setCell (p:=⟨M,29,none⟩) nlr (.slice (some ⟨g,0,none⟩) n cap)
  exact⟨(hd2.lps _).drew,(((Only.refl M _).set _ _).own ho2).drew,hb2.drew⟩
 go_enter Tryz.func204,Tryz.ntmps204
 go_wp2_with fail
 go_quiet (fail)
 go_wp2_with fail
 go_quiet (fail)
 go_wp2
 go_region
 generalize nq=n2 at *
 exact bodyPost_end (results_none rfl _ _ _) rfl ⟨rfl,(uh HZ _).1,(uh HZ _).2.1,(uh HZ _).2.2⟩
theorem end_bad (M at' fuel h m n g cap:Nat) (code:Value) (xs:List Value) (w:World) (hd:Dry w M code at' fuel h (.slice (some ⟨g,0,none⟩) (n+1) cap)) (hn:n≤10000) (ho:w.ownsRow (M+1) 379 2 (.slice (some ⟨g,0,none⟩) (n+1) cap) (n+1) (xs++[.int .i64 1,.int .i64 m])) (hl:xs.length=n * 2) (hm:h≠m) (u:TypeId) (p:Value) (he:w.cell? ⟨5,0,none⟩=some (.iface u p)) :
  Calls Tryz.prog 204 #[.pointer (some ⟨M,0,none⟩)] w fun e w'=>e = .panicked [{ v := .iface u p,recovered:=false }]∧Below w.heap.size w w':=by
 have q1:w.cell? ⟨g,n * 2+1,none⟩=some (.int .i64 m):=(ho.cellAt (n * 2+1) (by omega)).trans (by rw[List.getElem?_append_right (by omega),hl];simp)
 have e1:=hd.hh
 have e2:=hd.ll
 have g0:((n+1:Nat):Int) - 1=(n:Int):=by omega
 have g1:(0:Int)≤(n:Int):=Int.natCast_nonneg _
 have g2:(n:Int) < ((n+1:Nat):Int):=by omega
 have g3:(((h:Nat):Int) != ((m:Nat):Int))=true:=by rw[bne_iff_ne];omega
 go_enter Tryz.func204,Tryz.ntmps204
 go_wp2_with fail
 go_quiet (fail)
 go_wp2_with fail
 go_quiet (fail)
 go_wp2
 exact⟨rfl,rfl,below_drewN _ _⟩
theorem do_24 (R:Ending→World→Prop) (M:Nat) (w:World) (h:Calls Tryz.prog 202 #[.pointer (some ⟨M,0,none⟩)] w R) (hR:∀ e w',R e w'→e = .returned (.tuple #[])∨∃ v,e = .panicked [{ v:=v,recovered:=false }]):Calls Tryz.prog 201 #[.pointer (some ⟨M,0,none⟩)] w R:=by
 go_enter Tryz.func201,Tryz.ntmps201
 go_wp2_with fail
 refine h.mono ?_
 intro e w1 hr
 rcases hR e w1 hr with rfl | ⟨v,rfl⟩
 ·go_wp2
  exact bodyPost_end (results_none rfl _ _ _) rfl hr
 ·go_wp2
  exact⟨rfl,hr⟩
theorem do_25 (R:Ending→World→Prop) (M:Nat) (w:World) (h:Calls Tryz.prog 204 #[.pointer (some ⟨M,0,none⟩)] w R) (hR:∀ e w',R e w'→e = .returned (.tuple #[])∨∃ v,e = .panicked [{ v:=v,recovered:=false }]):Calls Tryz.prog 203 #[.pointer (some ⟨M,0,none⟩)] w R:=by
 go_enter Tryz.func203,Tryz.ntmps203
 go_wp2_with fail
 refine h.mono ?_
 intro e w1 hr
 rcases hR e w1 hr with rfl | ⟨v,rfl⟩
 ·go_wp2
  exact bodyPost_end (results_none rfl _ _ _) rfl hr
 ·go_wp2
  exact⟨rfl,hr⟩
end Go.Proofs.YteflnddphpjahaaGreatDoor
namespace Go.Proofs.YteflnddphpjahaaGreatDoor.Sp
open Go
def dst (x:List UInt8) (h:Nat) (ls:List Nat):Option (Nat × List Nat):=
 if x=[91] then (if h=0 then none else some (h - 1,ls++[h - 1]))
 else if x=[93] then (match ls.getLast? with | some m=>if h=m then some (h,ls.dropLast) else none | none=>none)
 else match tk true x with
  | none=>none
  | some (n,m)=>if n≤h∧h - n+m≤16 then some (h - n+m,ls) else none
def drun:List (List UInt8)→Nat→List Nat→Option (Nat × List Nat)
 | [],h,ls=>some (h,ls)
 | x :: r,h,ls=>match dst x h ls with
  | none=>none
  | some (h',ls')=>drun r h' ls'
theorem drun_append:∀ (A B:List (List UInt8)) (h:Nat) (ls:List Nat),drun (A++B) h ls=match drun A h ls with
  | none=>none
  | some (h',ls')=>drun B h' ls':=by
 intro A
 induction A with
 | nil=>intro B h ls;rfl
 | cons x r ih =>
  intro B h ls
  simp only[List.cons_append,drun]
  cases dst x h ls with
  | none=>rfl
  | some p=>exact ih B p.1 p.2
theorem drun_open (r:List (List UInt8)) (h:Nat) (ls:List Nat):drun ([91] :: r) h ls=if h=0 then none else drun r (h - 1) (ls++[h - 1]):=by
 have e:dst [91] h ls=if h=0 then none else some (h - 1,ls++[h - 1]):=by unfold dst;rw[if_pos rfl]
 rw[drun,e]
 by_cases h0:h=0
 ·rw[if_pos h0,if_pos h0]
 ·rw[if_neg h0,if_neg h0]
theorem drun_shut (r:List (List UInt8)) (h m:Nat) (ls:List Nat):drun ([93] :: r) h (ls++[m])=if h=m then drun r h ls else none:=by
 have e:dst [93] h (ls++[m])=if h=m then some (h,ls) else none:=by
  unfold dst
  rw[if_neg (by decide),if_pos rfl]
  simp only[List.getLast?_append,List.getLast?_singleton,Option.some_or,List.dropLast_concat]
 rw[drun,e]
 by_cases h0:h=m
 ·rw[if_pos h0,if_pos h0]
 ·rw[if_neg h0,if_neg h0]
theorem ds_none {x:List UInt8} (h1:x≠[91]) (h2:x≠[93]):ds x=0:=by unfold ds;rw[if_neg h1,if_neg h2]
theorem fmd_cons {wt:Bool} {x:List UInt8} {r:List (List UInt8)} {d:Int} (h:fmd wt (x :: r) d=true):tk wt x≠none∧0≤d+ds x∧fmd wt r (d+ds x)=true:=by
 simp only[fmd] at h
 split at h
 ·cases h
 ·rename_i hc
  exact⟨fun e=>hc (Or.inl e),by omega,h⟩
theorem fmd_mk {wt:Bool} {x:List UInt8} {r:List (List UInt8)} {d:Int} (h1:tk wt x≠none) (h2:0≤d+ds x) (h:fmd wt r (d+ds x)=true):fmd wt (x :: r) d=true:=by
 simp only[fmd]
 rw[if_neg (by intro hc;rcases hc with hc | hc;exact h1 hc;omega)]
 exact h
theorem fmd_weight:∀ (R:List (List UInt8)) (d:Int),fmd false R d=true→fmd true R d=true:=by
 intro R
 induction R with
 | nil=>intro d h;exact h
 | cons x r ih =>
  intro d h
  obtain⟨h1,h2,h3⟩:=fmd_cons h
  refine fmd_mk ?_ h2 (ih _ h3)
  cases ht:tk false x with
  | none=>exact absurd ht h1
  | some p=>rw[tk_weight (n:=p.1) (m:=p.2) (by rw[ht])];exact fun e=>by cases e
theorem fmd_split:∀ (R:List (List UInt8)) (d:Int),0≤d→fmd true R (d+1)=true →
  ∃ R1 R2,R=R1++[93] :: R2∧fmd true R1 d=true∧fmd true R2 0=true∧∀ k T,clo (R++T) k (d+1)=some (k+R1.length):=by
 intro R
 induction R with
 | nil =>
  intro d hd h
  simp only[fmd,decide_eq_true_eq] at h
  omega
 | cons y r ih =>
  intro d hd h
  obtain⟨h1,h2,h3⟩:=fmd_cons h
  by_cases hc:d+1+ds y=0
  ·have hy:y=[93]:=by
    have hb:=ds_bd y
    by_cases e1:y=[91]
    ·subst e1;simp[ds] at hc;omega
    ·by_cases e2:y=[93]
     ·exact e2
     ·rw[ds_none e1 e2] at hc;omega
   have hd0:d=0:=by have:=ds_bd y;omega
   subst hy hd0
   refine⟨[],r,rfl,rfl,by rw[hc] at h3;exact h3,fun k T=>?_⟩
   simp only[List.cons_append,clo]
   rw[if_pos hc];rfl
  ·obtain⟨R1,R2,e,f1,f2,f3⟩:=ih (d+ds y) (by omega) (by rw[show d+ds y+1=d+1+ds y by omega];exact h3)
   refine⟨y :: R1,R2,by rw[e];rfl,fmd_mk h1 (by omega) f1,f2,fun k T=>?_⟩
   simp only[List.cons_append,clo]
   rw[if_neg hc,show d+1+ds y=d+ds y+1 by omega,f3 (k+1) T]
   simp only[List.length_cons]
   congr 1;omega
theorem hgt_end (L:List (List UInt8)) (f a h:Nat):hgt L f a a h=some h:=by
 cases f with
 | zero=>simp[hgt]
 | succ f=>rw[hgt,if_pos nlr]
theorem drun_hgt (L:List (List UInt8)):∀ (N:Nat) (S T:List (List UInt8)) (a h:Nat) (ls:List Nat),S.length≤N→L.drop a=S++T→a+S.length≤L.length→fmd true S 0=true→h≤16 →
  drun S h ls=match hgt L (L.length - a) a (a+S.length) h with
   | none=>none
   | some h'=>some (h',ls):=by
 intro N
 induction N with
 | zero =>
  intro S T a h ls hN hL ha hf hh
  have:S=[]:=List.eq_nil_of_length_eq_zero (by omega)
  subst this
  rw[List.length_nil,Nat.add_zero,hgt_end];rfl
 | succ N ih =>
  intro S T a h ls hN hL ha hf hh
  cases S with
  | nil=>rw[List.length_nil,Nat.add_zero,hgt_end];rfl
  | cons x r =>
   obtain⟨h1,h2,h3⟩:=fmd_cons hf
   have hla:a < L.length:=by simp only[List.length_cons] at ha;omega
   have hx:L.getD a []=x:=by
    rw[List.getD_eq_getElem?_getD,List.getElem?_eq_getElem hla]
    have:=List.drop_eq_getElem_cons hla
    rw[hL] at this
    simp only[List.cons_append,List.cons.injEq] at this
    simp[this.1]
   have hLr:L.drop (a+1)=r++T:=by
    have:=List.drop_eq_getElem_cons hla
    rw[hL] at this
    simp only[List.cons_append,List.cons.injEq] at this
    exact this.2.symm
   have hlen:L.length - a=(L.length - (a+1))+1:=by omega
   simp only[List.length_cons] at ha hN ⊢
   rw[hlen,hgt,if_neg (by omega),hx]
   by_cases e1:x=[91]
   ·subst e1
    have htk:tk true [91]=some (1,0):=by decide
    rw[htk]
    simp only
    have hds:ds [91]=1:=by decide
    rw[hds] at h3
    obtain⟨R1,R2,er,f1,f2,f3⟩:=fmd_split r 0 (Int.le_refl _) (by simpa using h3)
    have hclo:clo (L.drop a) a 0=some (a+1+R1.length):=by
     rw[hL]
     simp only[List.cons_append,clo,hds]
     rw[if_neg (by omega)]
     exact f3 (a+1) T
    rw[drun_open]
    by_cases h0:h=0
    ·rw[if_pos h0,if_pos (by omega)]
    ·rw[if_neg h0,if_neg (by omega),if_pos trivial,hclo]
     simp only
     have hrl:r.length=R1.length+(R2.length+1):=by rw[er];simp
     have i1:=ih R1 ([93] :: R2++T) (a+1) (h - 1) (ls++[h - 1]) (by omega) (by rw[hLr,er];simp) (by omega) f1 (by omega)
     have hL2:L.drop (a+1+R1.length+1)=R2++T:=by
      rw[Nat.add_assoc (a+1),← List.drop_drop,hLr,er]
      rw[show R1++[93] :: R2++T=(R1++[[93]])++(R2++T) by simp]
      exact List.drop_left' (by simp)
     have i2:=ih R2 T (a+1+R1.length+1) (h - 1) ls (by omega) hL2 (by omega) f2 (by omega)
     rw[er,drun_append,i1]
     have eb:a+(R1++[93] :: R2).length+1=a+1+R1.length+1+R2.length:=by simp;omega
     have ef:L.length - (a+1) - (a+1+R1.length - a)=L.length - (a+1+R1.length+1):=by omega
     simp only[Nat.add_zero]
     cases hg:hgt L (L.length - (a+1)) (a+1) (a+1+R1.length) (h - 1) with
     | none=>simp only;rw[if_neg (by intro e;cases e)]
     | some h' =>
      simp only
      rw[drun_shut]
      by_cases hq:h'=h - 1
      ·subst hq
       rw[if_pos rfl,if_pos rfl,i2,ef]
       have:a+((R1++[93] :: R2).length+1)=a+1+R1.length+1+R2.length:=by simp;omega
       rw[this]
      ·rw[if_neg hq,if_neg (by intro e;injection e with e;exact hq e)]
   ·have e2:x≠[93]:=by
     rintro rfl
     have:ds [93] = -1:=by decide
     omega
    have hds:=ds_none e1 e2
    rw[hds] at h3
    cases ht:tk true x with
    | none=>exact absurd ht h1
    | some p =>
     obtain⟨n,m⟩:=p
     simp only[drun,dst]
     rw[if_neg e1,if_neg e2,ht]
     simp only
     by_cases hq:n≤h∧h - n+m≤16
     ·rw[if_pos hq,if_neg (by omega),if_neg e1]
      simp only
      have:=ih r T (a+1) (h - n+m) ls (by omega) hLr (by omega) (by simpa using h3) (by omega)
      rw[this,show a+1+r.length=a+(r.length+1) by omega]
     ·rw[if_neg hq,if_pos (by omega)]
def keeps (C:List (List UInt8)):Bool:=decide (hgt C C.length 0 C.length 0=some 1)
theorem keeps_drun {C:List (List UInt8)} (hf:fmd true C 0=true):(keeps C=true∧drun C 0 []=some (1,[]))∨(keeps C=false∧(drun C 0 []=none∨∃ h,h≠1∧drun C 0 []=some (h,[]))):=by
 have h:=drun_hgt C C.length C [] 0 0 [] nlr (by simp) (by omega) hf (by omega)
 rw[Nat.sub_zero,Nat.zero_add] at h
 unfold keeps
 cases hg:hgt C C.length 0 C.length 0 with
 | none=>rw[hg] at h;exact Or.inr ⟨by decide,Or.inl h⟩
 | some h' =>
  rw[hg] at h
  by_cases e:h'=1
  ·subst e;exact Or.inl ⟨by decide,h⟩
  ·exact Or.inr ⟨decide_eq_false (fun he=>e (by injection he)),Or.inr ⟨h',e,h⟩⟩
def wtk:List (Nat × Nat):=[(0,1),(0,1),(0,1),(0,1),(0,1),(0,1),(0,1),(0,1),(0,1),(2,1),(2,1),(2,1),(2,1),(2,1),(2,1),(2,1),(2,1),(2,1),(1,2),(1,0),(2,2),(2,3),(3,1),(1,0),(0,0)]
theorem tk_num {wt:Bool} {x:List UInt8} {n:Int} (h:number x=some n):tk wt x=some (0,1):=by
 unfold tk;rw[if_pos (Or.inl (by rw[h];rfl))]
theorem tk_true:∀ k,k < 25→tk true (nms[k]!)=some (wtk[k]!):=by decide
theorem tk_false:∀ k,k < 25→tk false (nms[k]!)=if k=8 then none else some (wtk[k]!):=by decide
theorem tk_none {wt:Bool} {x:List UInt8} (h:number x=none) (hx:∀ k,k < 25→nms[k]!≠x):tk wt x=none:=by
 have e:∀ y ∈ nms,y≠x:=by
  intro y hy
  obtain⟨k,hk,rfl⟩:=List.mem_iff_getElem.1 hy
  have h25:nms.length=25:=rfl
  have:=hx k (by omega)
  rwa [getElem!_pos nms k hk] at this
 have e1:x ∉ loadsL:=fun hm=>e x ((by decide:∀ y ∈ loadsL,y ∈ nms) x hm) rfl
 have e2:x ∉ twosL:=fun hm=>e x ((by decide:∀ y ∈ twosL,y ∈ nms) x hm) rfl
 have f:∀ y,y ∈ nms→x≠y:=fun y hy he=>e y hy he.symm
 unfold tk
 rw[if_neg (by rintro(hc | hc | hc);(rw[h] at hc;cases hc);exact e1 hc;exact f _ (by decide) hc.2),if_neg e2,if_neg (f _ (by decide)),if_neg (f _ (by decide)),if_neg (f _ (by decide)),if_neg (f _ (by decide)),if_neg (f _ (by decide)),if_neg (f _ (by decide)),if_neg (f _ (by decide))]
end Go.Proofs.YteflnddphpjahaaGreatDoor.Sp
namespace Go.Proofs.YteflnddphpjahaaGreatDoor
open Go.RowKit
def flat:List Nat→List Value
 | []=>[]
 | h :: r=>.int .i64 1 :: .int .i64 h :: flat r
theorem flat_len (ls:List Nat):(flat ls).length=ls.length * 2:=by
 induction ls with
 | nil=>rfl
 | cons h r ih=>simp only[flat,List.length_cons,ih];omega
theorem flat_app (a b:List Nat):flat (a++b)=flat a++flat b:=by
 induction a with
 | nil=>rfl
 | cons h r ih=>simp[flat,ih]
def DryS (w:World) (M:Nat) (code:Value) (at' fuel h:Nat) (ls:List Nat):Prop :=
 ∃ x,Dry w M code at' fuel h x∧w.ownsRow (M+1) 379 2 x ls.length (flat ls)
def WPost (o:Option (Nat × List Nat)) (M at' fuel:Nat) (code:Value) (u:TypeId) (p:Value) (w:World) (e:Ending) (w':World):Prop :=
 Below M w w'∧match o with
  | some (h,ls)=>e = .returned (.tuple #[])∧DryS w' M code at' fuel h ls
  | none=>e = .panicked [{ v := .iface u p,recovered:=false }]
def WordLaw (F:Nat) (x:List UInt8):Prop := ∀ (M at' fuel h:Nat) (code:Value) (ls:List Nat) (u:TypeId) (p:Value) (w:World),DryS w M code at' fuel h ls→DryEnv M h u p w→ls.length≤10000→(x=[93]→ls≠[]) →
 Calls Tryz.prog F #[.pointer (some ⟨M,0,none⟩)] w (WPost (Sp.dst x h ls) M at' fuel code u p w)
theorem post_word {x:List UInt8} (h1:x≠[91]) (h2:x≠[93]) {n m:Nat} (ht:Sp.tk true x=some (n,m)) {M at' fuel h:Nat} {code l:Value} {ls:List Nat} {u:TypeId} {p:Value} {w w':World} {e:Ending} (hr:w.ownsRow (M+1) 379 2 l ls.length (flat ls)) (hp:DoPost n m M at' fuel h code l u p w e w') :
  WPost (Sp.dst x h ls) M at' fuel code u p w e w':=by
 obtain⟨ho,hq⟩:=hp
 refine⟨ho.below,?_⟩
 unfold Sp.dst
 rw[if_neg h1,if_neg h2,ht]
 simp only
 rcases hq with ⟨q1,q2,rfl,q3⟩ | ⟨q1,rfl⟩
 ·rw[if_pos ⟨q1,q2⟩];exact⟨rfl,l,q3,ho.own hr⟩
 ·rw[if_neg q1]
theorem does_word {F n m:Nat} (hF:Does F n m) {x:List UInt8} (h1:x≠[91]) (h2:x≠[93]) (ht:Sp.tk true x=some (n,m)):WordLaw F x:=by
 intro M at' fuel h code ls u p w hd hv hl hx
 obtain⟨l,hd,hr⟩:=hd
 exact(hF M at' fuel h code l u p w hd hv).mono fun e w' hp=>post_word h1 h2 ht hr hp
theorem law_24:WordLaw 201 [91]:=by
 intro M at' fuel h code ls u p w hd hv hl hx
 obtain⟨l,hd,hr⟩:=hd
 cases h with
 | zero =>
  refine(do_24 _ M w (begin_none M at' fuel code l w hd u p hv.he) (fun e w' hh=>Or.inr ⟨_,hh.1⟩)).mono ?_
  rintro e w' ⟨rfl,rfl⟩
  exact⟨Below.refl _ _,rfl⟩
 | succ h =>
  refine(do_24 _ M w (begin_ok M at' fuel h ls.length code l (flat ls) w hd hv.hh hl hr) (fun e w' hh=>Or.inl hh.1)).mono ?_
  rintro e w' ⟨rfl,x',hd',hr',hk⟩
  refine⟨hk,rfl,x',hd',?_⟩
  rw[flat_app,show (ls++[h+1 - 1]).length=ls.length+1 by simp]
  exact hr'
theorem law_25:WordLaw 203 [93]:=by
 intro M at' fuel h code ls u p w hd hv hl hx
 obtain⟨l,hd,hr⟩:=hd
 obtain⟨ls,m,rfl⟩:∃ a m,ls=a++[m]:=⟨ls.dropLast,ls.getLast (hx rfl),(List.dropLast_concat_getLast (hx rfl)).symm⟩
 rw[flat_app] at hr
 simp only[List.length_append,List.length_cons,List.length_nil] at hr hl
 have hs:∃ g cap,l = .slice (some ⟨g,0,none⟩) (ls.length+1) cap:=by
  rcases hr.2 with ⟨h0,hn⟩ | ⟨g,cap,cur,hv,_⟩
  ·omega
  ·exact⟨g,cap,hv⟩
 obtain⟨g,cap,rfl⟩:=hs
 have e1:Sp.dst [93] h (ls++[m])=if h=m then some (h,ls) else none:=by
  unfold Sp.dst
  rw[if_neg (by decide),if_pos rfl]
  simp only[List.getLast?_append,List.getLast?_singleton,Option.some_or,List.dropLast_concat]
 rw[e1]
 by_cases hm:h=m
 ·subst hm
  rw[if_pos rfl]
  refine(do_25 _ M w (end_ok M at' fuel h ls.length g cap code (flat ls) w hd (by omega) hr (flat_len ls)) (fun e w' hh=>Or.inl hh.1)).mono ?_
  rintro e w' ⟨rfl,hd',hr',hk⟩
  exact⟨hk,rfl,_,hd',hr'⟩
 ·rw[if_neg hm]
  refine(do_25 _ M w (end_bad M at' fuel h m ls.length g cap code (flat ls) w hd (by omega) hr (flat_len ls) hm u p hv.he) (fun e w' hh=>Or.inr ⟨_,hh.1⟩)).mono ?_
  rintro e w' ⟨rfl,hb⟩
  exact⟨hb.mono (Nat.le_of_lt hd.lt),rfl⟩
theorem word_all:(k:Nat)→k < 25→WordLaw (wfn[k]!) (Sp.nms[k]!)
 | 0,_=>does_word do_1 (by decide) (by decide) (by decide)
 | 1,_=>does_word do_2 (by decide) (by decide) (by decide)
 | 2,_=>does_word do_3 (by decide) (by decide) (by decide)
 | 3,_=>does_word do_4 (by decide) (by decide) (by decide)
 | 4,_=>does_word do_5 (by decide) (by decide) (by decide)
 | 5,_=>does_word do_6 (by decide) (by decide) (by decide)
 | 6,_=>does_word do_7 (by decide) (by decide) (by decide)
 | 7,_=>does_word do_8 (by decide) (by decide) (by decide)
 | 8,_=>does_word do_9 (by decide) (by decide) (by decide)
 | 9,_=>does_word do_10 (by decide) (by decide) (by decide)
 | 10,_=>does_word do_11 (by decide) (by decide) (by decide)
 | 11,_=>does_word do_12 (by decide) (by decide) (by decide)
 | 12,_=>does_word do_13 (by decide) (by decide) (by decide)
 | 13,_=>does_word do_14 (by decide) (by decide) (by decide)
 | 14,_=>does_word do_15 (by decide) (by decide) (by decide)
 | 15,_=>does_word do_16 (by decide) (by decide) (by decide)
 | 16,_=>does_word do_17 (by decide) (by decide) (by decide)
 | 17,_=>does_word do_18 (by decide) (by decide) (by decide)
 | 18,_=>does_word do_19 (by decide) (by decide) (by decide)
 | 19,_=>does_word do_20 (by decide) (by decide) (by decide)
 | 20,_=>does_word do_21 (by decide) (by decide) (by decide)
 | 21,_=>does_word do_22 (by decide) (by decide) (by decide)
 | 22,_=>does_word do_23 (by decide) (by decide) (by decide)
 | 23,_=>law_24
 | 24,_=>law_25
 | n+25,h=>absurd h (by omega)
theorem word_num {x:List UInt8} {n:Int} (hn:Sp.number x=some n) (B M at' fuel h:Nat) (code:Value) (ls:List Nat) (u:TypeId) (p:Value) (w:World) (hd:DryS w M code at' fuel h ls) (hv:DryEnv M h u p w) (hB:w.cell? ⟨B,0,none⟩=some (.int .i64 n)) :
  Calls Tryz.prog 300 #[.pointer (some ⟨M,0,none⟩),.pointer (some ⟨B,0,none⟩)] w (WPost (Sp.dst x h ls) M at' fuel code u p w):=by
 obtain⟨l,hd,hr⟩:=hd
 have h1:x≠[91]:=by rintro rfl;rw[show Sp.number [91]=none by decide] at hn;cases hn
 have h2:x≠[93]:=by rintro rfl;rw[show Sp.number [93]=none by decide] at hn;cases hn
 exact(do_num B n M at' fuel h code l u p w hd hv hB).mono fun e w' hp=>post_word h1 h2 (Sp.tk_num hn) hr hp
end Go.Proofs.YteflnddphpjahaaGreatDoor
