import Derived.Test.YteflnddphpjahaaGreatDoorCnDlLtoDlN
set_option linter.unusedVariables false
set_option linter.unusedSimpArgs false
set_option maxRecDepth 100000
set_option maxHeartbeats 16000000
namespace Go.Proofs.YteflnddphpjahaaGreatDoor.Dl
open Go.RowKit
open Rd (strs drN Rk RAt rOwn)
open Dk (Kept own_kept)
open Pk (Pair Half Sm DAt dOwn blk_lt blk_ne own_blk own_lt own_sl NP)
theorem StPost.mono {w0:World} {W m n b N0 T0 I0 n' b':Nat} {e:Ending} {w':World} (h:StPost w0 W m n b N0 T0 I0 e w') (hn:n≤n') (hb:b≤b'):StPost w0 W m n' b' N0 T0 I0 e w':=by
 obtain⟨h1,Ps,vd,vr,N,vT,vI,ht,hi,h2,h3⟩:=h
 exact⟨h1,Ps,vd,vr,N,vT,vI,ht,hi,h2.mono hn hb,h3⟩
theorem disk_list (w0 w:World) (W:Nat) (Ps:List Pr) (vd vr:Value) (N:Nat) (vT vI:Value) (ht hi:List (Value × Int)) (n b i:Nat) (o:Op) (hk:o.k=8) (h:Inv w0 w W Ps vd vr N vT vI ht hi n b) (hil:i < Ps.length) (hn:n≤100000) (hb:b≤1048576) (hN:N+1≤10000000) (hht:ht.length+4≤10000000) (hhi:hi.length+1≤10000000) (ha:o.a≤9223372036854775807) (hs:o.s.size≤1048576) (hts:o.t.size≤1048576) (kpp:Option Addr) (kn kc:Nat) (K:Nat→Int) (hkv:o.kv = .slice kpp kn kc) (hK:Rd.KpAt w0 kpp kn K) (hkn:kn≤1048576) :
  Calls Tryz.prog 47 #[.pointer (some ⟨W,0,none⟩),.int .i64 (i:Int),.agg o.cells] w (StPost w0 W Ps.length (n+1) (b+o.t.size) N ht.length hi.length):=by
 have ho:=o
 obtain⟨ok,oa,okk,s,t,kv,c0,c1,c2⟩:=o
 simp only at hk ha hs hts hkv ⊢
 subst hkv
 subst hk
 unfold Op.cells
 have hbA:Below w.heap.size w (w.alloc (.cells #[.int .i64 8,.int .i64 oa,.int .i64 okk,.string s,.string t,.slice kpp kn kc,.int .i64 c0,.int .i64 c1,.int .i64 c2] 102)):=(Below.refl _ w).alloc nlr _
 have hbox:=heap_alloc_new w (.cells #[.int .i64 8,.int .i64 oa,.int .i64 okk,.string s,.string t,.slice kpp kn kc,.int .i64 c0,.int .i64 c1,.int .i64 c2] 102)
 have h1:=h.below hbA
 clear ho
 have hC:=lists_any w0 _ W Ps vd vr N vT vI ht hi n b i h1 hil hn hb hN hht
 clear h h1 hbA hbox hK
 go_enter Tryz.func47,Tryz.ntmps47
 go_wp2_with fail
 refine hC.mono ?_
 rintro e w1 ⟨rfl,vT',new,hI,hlen,_⟩
 have HR:Hid (StPost w0 W Ps.length (n+1) (b+t.size) N ht.length hi.length (.returned (.bool true)) w1):=hde ⟨rfl,_,_,_,_,_,_,_,_,hI.mono (by omega) (by omega),rfl,by omega,by rw[List.length_append,hlen];exact Nat.le_refl _,by omega⟩
 clear hI hlen hC
 go_wp2
 go_ret
 exact uh HR
theorem disk_read (w0 w:World) (W:Nat) (Ps:List Pr) (vd vr:Value) (N:Nat) (vT vI:Value) (ht hi:List (Value × Int)) (n b i:Nat) (o:Op) (hk:o.k=9) (h:Inv w0 w W Ps vd vr N vT vI ht hi n b) (hil:i < Ps.length) (hn:n≤100000) (hb:b≤1048576) (hN:N+1≤10000000) (hht:ht.length+4≤10000000) (hhi:hi.length+1≤10000000) (ha:o.a≤9223372036854775807) (hs:o.s.size≤1048576) (hts:o.t.size≤1048576) (kpp:Option Addr) (kn kc:Nat) (K:Nat→Int) (hkv:o.kv = .slice kpp kn kc) (hK:Rd.KpAt w0 kpp kn K) (hkn:kn≤1048576) :
  Calls Tryz.prog 47 #[.pointer (some ⟨W,0,none⟩),.int .i64 (i:Int),.agg o.cells] w (StPost w0 W Ps.length (n+1) (b+o.t.size) N ht.length hi.length):=by
 have ho:=o
 obtain⟨ok,oa,okk,s,t,kv,c0,c1,c2⟩:=o
 simp only at hk ha hs hts hkv ⊢
 subst hkv
 subst hk
 unfold Op.cells
 have hbA:Below w.heap.size w (w.alloc (.cells #[.int .i64 9,.int .i64 oa,.int .i64 okk,.string s,.string t,.slice kpp kn kc,.int .i64 c0,.int .i64 c1,.int .i64 c2] 102)):=(Below.refl _ w).alloc nlr _
 have hbox:=heap_alloc_new w (.cells #[.int .i64 9,.int .i64 oa,.int .i64 okk,.string s,.string t,.slice kpp kn kc,.int .i64 c0,.int .i64 c1,.int .i64 c2] 102)
 have h1:=h.below hbA
 clear ho
 have hC:=reads_any w0 _ W Ps vd vr N vT vI ht hi n b i s h1 hil hn hb
 have H1:=hde h1
 clear h h1 hbA hbox hK
 go_enter Tryz.func47,Tryz.ntmps47
 go_wp2_with fail
 refine hC.mono ?_
 rintro e w1 ⟨rfl,hb1⟩
 have HR:Hid (StPost w0 W Ps.length (n+1) (b+t.size) N ht.length hi.length (.returned (.bool true)) w1):=hde ⟨rfl,_,_,_,_,_,_,_,_,((uh H1).below hb1).mono (by omega) (by omega),rfl,by omega,by omega,by omega⟩
 clear hb1 hC
 go_wp2
 go_ret
 exact uh HR
theorem disk_used (w0 w:World) (W:Nat) (Ps:List Pr) (vd vr:Value) (N:Nat) (vT vI:Value) (ht hi:List (Value × Int)) (n b i:Nat) (o:Op) (hk:o.k=10) (h:Inv w0 w W Ps vd vr N vT vI ht hi n b) (hil:i < Ps.length) (hn:n≤100000) (hb:b≤1048576) (hN:N+1≤10000000) (hht:ht.length+4≤10000000) (hhi:hi.length+1≤10000000) (ha:o.a≤9223372036854775807) (hs:o.s.size≤1048576) (hts:o.t.size≤1048576) (kpp:Option Addr) (kn kc:Nat) (K:Nat→Int) (hkv:o.kv = .slice kpp kn kc) (hK:Rd.KpAt w0 kpp kn K) (hkn:kn≤1048576) :
  Calls Tryz.prog 47 #[.pointer (some ⟨W,0,none⟩),.int .i64 (i:Int),.agg o.cells] w (StPost w0 W Ps.length (n+1) (b+o.t.size) N ht.length hi.length):=by
 have ho:=o
 obtain⟨ok,oa,okk,s,t,kv,c0,c1,c2⟩:=o
 simp only at hk ha hs hts hkv ⊢
 subst hkv
 subst hk
 unfold Op.cells
 have hbA:Below w.heap.size w (w.alloc (.cells #[.int .i64 10,.int .i64 oa,.int .i64 okk,.string s,.string t,.slice kpp kn kc,.int .i64 c0,.int .i64 c1,.int .i64 c2] 102)):=(Below.refl _ w).alloc nlr _
 have hbox:=heap_alloc_new w (.cells #[.int .i64 10,.int .i64 oa,.int .i64 okk,.string s,.string t,.slice kpp kn kc,.int .i64 c0,.int .i64 c1,.int .i64 c2] 102)
 have h1:=h.below hbA
 clear ho
 have hC:=used_any w0 _ W Ps vd vr N vT vI ht hi n b i h1 hil hn hb
 have H1:=hde h1
 clear h h1 hbA hbox hK
 go_enter Tryz.func47,Tryz.ntmps47
 go_wp2_with fail
 refine hC.mono ?_
 rintro e w1 ⟨rfl,hb1⟩
 have HR:Hid (StPost w0 W Ps.length (n+1) (b+t.size) N ht.length hi.length (.returned (.bool true)) w1):=hde ⟨rfl,_,_,_,_,_,_,_,_,((uh H1).below hb1).mono (by omega) (by omega),rfl,by omega,by omega,by omega⟩
 clear hb1 hC
 go_wp2
 go_ret
 exact uh HR
theorem disk_crash (w0 w:World) (W:Nat) (Ps:List Pr) (vd vr:Value) (N:Nat) (vT vI:Value) (ht hi:List (Value × Int)) (n b i:Nat) (o:Op) (hk:o.k=13) (h:Inv w0 w W Ps vd vr N vT vI ht hi n b) (hil:i < Ps.length) (hn:n≤100000) (hb:b≤1048576) (hN:N+1≤10000000) (hht:ht.length+4≤10000000) (hhi:hi.length+1≤10000000) (ha:o.a≤9223372036854775807) (hs:o.s.size≤1048576) (hts:o.t.size≤1048576) (kpp:Option Addr) (kn kc:Nat) (K:Nat→Int) (hkv:o.kv = .slice kpp kn kc) (hK:Rd.KpAt w0 kpp kn K) (hkn:kn≤1048576) :
  Calls Tryz.prog 47 #[.pointer (some ⟨W,0,none⟩),.int .i64 (i:Int),.agg o.cells] w (StPost w0 W Ps.length (n+1) (b+o.t.size) N ht.length hi.length):=by
 have ho:=o
 obtain⟨ok,oa,okk,s,t,kv,c0,c1,c2⟩:=o
 simp only at hk ha hs hts hkv ⊢
 subst hkv
 subst hk
 unfold Op.cells
 have hbA:Below w.heap.size w (w.alloc (.cells #[.int .i64 13,.int .i64 oa,.int .i64 okk,.string s,.string t,.slice kpp kn kc,.int .i64 c0,.int .i64 c1,.int .i64 c2] 102)):=(Below.refl _ w).alloc nlr _
 have hbox:=heap_alloc_new w (.cells #[.int .i64 13,.int .i64 oa,.int .i64 okk,.string s,.string t,.slice kpp kn kc,.int .i64 c0,.int .i64 c1,.int .i64 c2] 102)
 have h1:=h.below hbA
 clear ho
 have hC:=crashes_any w0 _ W Ps vd vr N vT vI ht hi n b i oa kpp kn kc K h1 hil hn hb hN hhi hK hkn
 clear h h1 hbA hbox hK
 go_enter Tryz.func47,Tryz.ntmps47
 go_wp2_with fail
 refine hC.mono ?_
 rintro e w1 hp
 obtain rfl:=hp.1
 have HR:=hde (hp.mono (Nat.le_succ n) (Nat.le_add_right b t.size))
 clear hp hC
 go_wp2
 go_ret
 exact uh HR
theorem disk_quota (w0 w:World) (W:Nat) (Ps:List Pr) (vd vr:Value) (N:Nat) (vT vI:Value) (ht hi:List (Value × Int)) (n b i:Nat) (o:Op) (hk:o.k=11) (h:Inv w0 w W Ps vd vr N vT vI ht hi n b) (hil:i < Ps.length) (hn:n≤100000) (hb:b≤1048576) (hN:N+1≤10000000) (hht:ht.length+4≤10000000) (hhi:hi.length+1≤10000000) (ha:o.a≤9223372036854775807) (hs:o.s.size≤1048576) (hts:o.t.size≤1048576) (kpp:Option Addr) (kn kc:Nat) (K:Nat→Int) (hkv:o.kv = .slice kpp kn kc) (hK:Rd.KpAt w0 kpp kn K) (hkn:kn≤1048576) :
  Calls Tryz.prog 47 #[.pointer (some ⟨W,0,none⟩),.int .i64 (i:Int),.agg o.cells] w (StPost w0 W Ps.length (n+1) (b+o.t.size) N ht.length hi.length):=by
 have ho:=o
 obtain⟨ok,oa,okk,s,t,kv,c0,c1,c2⟩:=o
 simp only at hk ha hs hts hkv ⊢
 subst hkv
 subst hk
 unfold Op.cells
 have hbA:Below w.heap.size w (w.alloc (.cells #[.int .i64 11,.int .i64 oa,.int .i64 okk,.string s,.string t,.slice kpp kn kc,.int .i64 c0,.int .i64 c1,.int .i64 c2] 102)):=(Below.refl _ w).alloc nlr _
 have hbox:=heap_alloc_new w (.cells #[.int .i64 11,.int .i64 oa,.int .i64 okk,.string s,.string t,.slice kpp kn kc,.int .i64 c0,.int .i64 c1,.int .i64 c2] 102)
 have h1:=h.below hbA
 clear ho
 obtain⟨V,hV0⟩:∃ V,w.alloc (.cells #[.int .i64 11,.int .i64 oa,.int .i64 okk,.string s,.string t,.slice kpp kn kc,.int .i64 c0,.int .i64 c1,.int .i64 c2] 102)=V:=⟨_,rfl⟩
 obtain⟨g,cap,g',cap',e1,e2,q1,_⟩:=h1.ptr i hil
 have x0:=h1.wat.cell.1
 rw[e1] at x0
 have hiz:(i:Int) < (Ps.length:Int):=by omega
 have hi0:¬ (i:Int) < 0:=by omega
 rw[hV0] at h1 hbox x0 q1 hbA
 have y1:V.cell? ⟨w.heap.size,1,none⟩=some (.int .i64 oa):=by rw[cell_of_row V _ 1 _ _ _ hbox];rfl
 obtain⟨hpr,hsm⟩:=h1.pr Ps[i] (List.getElem_mem _)
 have hC:∀ X,Below V.heap.size V X→Calls Tryz.prog 87 #[.pointer (some ⟨(Ps[i]).D,0,none⟩),.int .i64 oa] X (NP V (Ps[i]).D (Ps[i]).E { (Ps[i]).R with limit:=oa } (Ps[i]).R (Ps[i]).O):=fun X hV=>Pk.p_quota oa (hpr.half.below hV)
 have HS:=hde (⟨hsm.dir,hsm.fn,hsm.file⟩:Sm { (Ps[i]).R with limit:=oa } n b)
 have hnb:=not_own hpr hbox (by decide)
 have hbl:=blk_lt hbox
 have H1:=hde h1
 have HB:=hde (And.intro hbox hnb)
 have hb0:Below V.heap.size V V.drew:=(Below.refl _ V).drew
 have HV0:=hde hV0
 clear h h1 e1 e2 hbA hbox hK hpr hsm hnb hV0
 go_enter Tryz.func47,Tryz.ntmps47
 go_upto_region 9 with (fail)
 rw[uh HV0]
 go_region_with (go_at_call 87;refine(hC _ hb0).mono ?_;rintro e w2 ⟨rfl,hh⟩)
 all_goals
  obtain⟨x1,g2,cap2,e2,q2⟩:=(uh H1).ptr2 i hil hh.kept
  rw[e2] at x1
  have hbx:w2.heap[w.heap.size]? = _:=(hh.kept.block w.heap.size hbl (uh HB).2).trans (uh HB).1
  have y2:w2.cell? ⟨w.heap.size,1,none⟩=some (.int .i64 oa):=by rw[cell_of_row w2 _ 1 _ _ _ hbx];rfl
  have rC:∀ X,X=w2.drew→Calls Tryz.prog 88 #[.pointer (some ⟨(Ps[i]).E,0,none⟩),.int .i64 oa] X (NP V (Ps[i]).D (Ps[i]).E { (Ps[i]).R with limit:=oa } { (Ps[i]).R with limit:=oa } (Ps[i]).O):=fun X hX=>by
   subst hX
   replace hh:=hh.below (Below.refl _ w2).drew
   exact Pk.r_quota oa hh
  clear hC hh e2 hbx x0 q1 y1
  go_upto_region 10 with (fail)
  go_region_with (go_at_call 88;refine(rC _ rfl).mono ?_;rintro e w3 ⟨rfl,hh3⟩)
  all_goals
   have HR:Hid (StPost w0 W Ps.length (n+1) (b+t.size) N ht.length hi.length (.returned (.bool true)) w3):=by
    obtain⟨O',hI⟩:=(uh H1).step i hil hh3 (uh HS) nlr nlr
    exact hde ⟨rfl,_,_,_,_,_,_,_,_,hI.mono (by omega) (by omega),List.length_set,by omega,by omega,by omega⟩
   clear hh3 rC x1 q2 y2
   go_wp2
   go_ret
   exact uh HR
theorem disk_arm (w0 w:World) (W:Nat) (Ps:List Pr) (vd vr:Value) (N:Nat) (vT vI:Value) (ht hi:List (Value × Int)) (n b i:Nat) (o:Op) (hk:o.k=12) (h:Inv w0 w W Ps vd vr N vT vI ht hi n b) (hil:i < Ps.length) (hn:n≤100000) (hb:b≤1048576) (hN:N+1≤10000000) (hht:ht.length+4≤10000000) (hhi:hi.length+1≤10000000) (ha:o.a≤9223372036854775807) (hs:o.s.size≤1048576) (hts:o.t.size≤1048576) (kpp:Option Addr) (kn kc:Nat) (K:Nat→Int) (hkv:o.kv = .slice kpp kn kc) (hK:Rd.KpAt w0 kpp kn K) (hkn:kn≤1048576) :
  Calls Tryz.prog 47 #[.pointer (some ⟨W,0,none⟩),.int .i64 (i:Int),.agg o.cells] w (StPost w0 W Ps.length (n+1) (b+o.t.size) N ht.length hi.length):=by
 have ho:=o
 obtain⟨ok,oa,okk,s,t,kv,c0,c1,c2⟩:=o
 simp only at hk ha hs hts hkv ⊢
 subst hkv
 subst hk
 unfold Op.cells
 have hbA:Below w.heap.size w (w.alloc (.cells #[.int .i64 12,.int .i64 oa,.int .i64 okk,.string s,.string t,.slice kpp kn kc,.int .i64 c0,.int .i64 c1,.int .i64 c2] 102)):=(Below.refl _ w).alloc nlr _
 have hbox:=heap_alloc_new w (.cells #[.int .i64 12,.int .i64 oa,.int .i64 okk,.string s,.string t,.slice kpp kn kc,.int .i64 c0,.int .i64 c1,.int .i64 c2] 102)
 have h1:=h.below hbA
 clear ho
 obtain⟨V,hV0⟩:∃ V,w.alloc (.cells #[.int .i64 12,.int .i64 oa,.int .i64 okk,.string s,.string t,.slice kpp kn kc,.int .i64 c0,.int .i64 c1,.int .i64 c2] 102)=V:=⟨_,rfl⟩
 obtain⟨g,cap,g',cap',e1,e2,q1,_⟩:=h1.ptr i hil
 have x0:=h1.wat.cell.1
 rw[e1] at x0
 have hiz:(i:Int) < (Ps.length:Int):=by omega
 have hi0:¬ (i:Int) < 0:=by omega
 rw[hV0] at h1 hbox x0 q1 hbA
 have y1:V.cell? ⟨w.heap.size,1,none⟩=some (.int .i64 oa):=by rw[cell_of_row V _ 1 _ _ _ hbox];rfl
 obtain⟨hpr,hsm⟩:=h1.pr Ps[i] (List.getElem_mem _)
 have hC:∀ X,Below V.heap.size V X→Calls Tryz.prog 89 #[.pointer (some ⟨(Ps[i]).D,0,none⟩),.int .i64 oa] X (NP V (Ps[i]).D (Ps[i]).E ((Ps[i]).R.arm oa) (Ps[i]).R (Ps[i]).O):=fun X hV=>Pk.p_arm oa ha (hpr.half.below hV)
 have HS:=hde (⟨hsm.dir,hsm.fn,hsm.file⟩:Sm ((Ps[i]).R.arm oa) n b)
 have hnb:=not_own hpr hbox (by decide)
 have hbl:=blk_lt hbox
 have H1:=hde h1
 have HB:=hde (And.intro hbox hnb)
 have hb0:Below V.heap.size V V.drew:=(Below.refl _ V).drew
 have HV0:=hde hV0
 clear h h1 e1 e2 hbA hbox hK hpr hsm hnb hV0
 go_enter Tryz.func47,Tryz.ntmps47
 go_upto_region 13 with (fail)
 rw[uh HV0]
 go_region_with (go_at_call 89;refine(hC _ hb0).mono ?_;rintro e w2 ⟨rfl,hh⟩)
 all_goals
  obtain⟨x1,g2,cap2,e2,q2⟩:=(uh H1).ptr2 i hil hh.kept
  rw[e2] at x1
  have hbx:w2.heap[w.heap.size]? = _:=(hh.kept.block w.heap.size hbl (uh HB).2).trans (uh HB).1
  have y2:w2.cell? ⟨w.heap.size,1,none⟩=some (.int .i64 oa):=by rw[cell_of_row w2 _ 1 _ _ _ hbx];rfl
  have rC:∀ X,X=w2.drew→Calls Tryz.prog 90 #[.pointer (some ⟨(Ps[i]).E,0,none⟩),.int .i64 oa] X (NP V (Ps[i]).D (Ps[i]).E ((Ps[i]).R.arm oa) ((Ps[i]).R.arm oa) (Ps[i]).O):=fun X hX=>by
   subst hX
   replace hh:=hh.below (Below.refl _ w2).drew
   exact Pk.r_arm oa hh
  clear hC hh e2 hbx x0 q1 y1
  go_upto_region 14 with (fail)
  go_region_with (go_at_call 90;refine(rC _ rfl).mono ?_;rintro e w3 ⟨rfl,hh3⟩)
  all_goals
   have HR:Hid (StPost w0 W Ps.length (n+1) (b+t.size) N ht.length hi.length (.returned (.bool true)) w3):=by
    obtain⟨O',hI⟩:=(uh H1).step i hil hh3 (uh HS) nlr nlr
    exact hde ⟨rfl,_,_,_,_,_,_,_,_,hI.mono (by omega) (by omega),List.length_set,by omega,by omega,by omega⟩
   clear hh3 rC x1 q2 y2
   go_wp2
   go_ret
   exact uh HR
end Go.Proofs.YteflnddphpjahaaGreatDoor.Dl
