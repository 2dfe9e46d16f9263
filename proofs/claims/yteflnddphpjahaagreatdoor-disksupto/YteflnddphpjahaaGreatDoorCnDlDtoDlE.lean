import Derived.Test.YteflnddphpjahaaGreatDoorCnDlBtoDlC
import Derived.Deep.Cut
set_option linter.unusedVariables false
set_option linter.unusedSimpArgs false
set_option maxRecDepth 100000
set_option maxHeartbeats 16000000
namespace Go.Proofs.YteflnddphpjahaaGreatDoor.Dl
open Go.RowKit
open Rd (strs drN Rk RAt rOwn opV)
open Dk (Kept own_kept)
open Pk (Pair Half Sm DAt dOwn blk_lt blk_ne own_blk own_lt DP)
structure Op where
 k:Int
 a:Int
 kk:Int
 s:ByteArray
 t:ByteArray
 kv:Value
 c0:Int
 c1:Int
 c2:Int
def Op.cells (o:Op):Array Value := #[.int .i64 o.k,.int .i64 o.a,.int .i64 o.kk,.string o.s,.string o.t,o.kv,.int .i64 o.c0,.int .i64 o.c1,.int .i64 o.c2]
theorem num_any (n:Int) (w:World):Calls Tryz.prog 16 #[.int .i64 n] w fun e w'=>e = .returned (.int .i64 n)∧w'=w:=by
 go_enter Tryz.func16,Tryz.ntmps16
 go_wp2
 go_ret
 exact⟨rfl,rfl⟩
def StPost (w0:World) (W:Nat) (m:Nat) (n b N0 T0 I0:Nat) (e:Ending) (w':World):Prop:=e = .returned (.bool true)∧∃ Ps vd vr N vT vI ht hi,Inv w0 w' W Ps vd vr N vT vI ht hi n b∧Ps.length=m∧N≤N0+1∧ht.length≤T0+4∧hi.length≤I0+1
theorem Inv.ptr {w0 w:World} {W:Nat} {Ps:List Pr} {vd vr:Value} {N:Nat} {vT vI:Value} {ht hi:List (Value × Int)} {n b:Nat} (h:Inv w0 w W Ps vd vr N vT vI ht hi n b) (i:Nat) (hi':i < Ps.length) :
  ∃ g cap g' cap',vd = .slice (some ⟨g,0,none⟩) Ps.length cap∧vr = .slice (some ⟨g',0,none⟩) Ps.length cap'∧w.cell? ⟨g,i,none⟩=some (.pointer (some ⟨(Ps[i]).D,0,none⟩))∧w.cell? ⟨g',i,none⟩=some (.pointer (some ⟨(Ps[i]).E,0,none⟩)):=by
 obtain⟨p,cap,rfl,hc⟩:=osl h.rd
 obtain⟨p',cap',rfl,hc'⟩:=osl h.rr
 obtain⟨g,hp,_,_,c0⟩:=hc i (by omega)
 obtain⟨g',hp',_,_,c0'⟩:=hc' i (by omega)
 subst hp hp'
 exact⟨g,cap,g',cap',rfl,rfl,c0.trans (by unfold dPs;rw[List.getElem?_map,List.getElem?_eq_getElem hi'];rfl),c0'.trans (by unfold rPs;rw[List.getElem?_map,List.getElem?_eq_getElem hi'];rfl)⟩
theorem _root_.Go.Proofs.YteflnddphpjahaaGreatDoor.Pk.Half.kept {w0 w:World} {D E:Nat} {Q R:Rk} {O:Nat→Prop} (h:Half w0 w D E Q R O):Kept w0 w (fun k=>¬ O k):=by
 obtain⟨d,blk,vf,vs,vc,h1,h2,h3,h4,h5,h6⟩:=h
 exact h5
theorem does_create (w0 w:World) (W:Nat) (Ps:List Pr) (vd vr:Value) (N:Nat) (vT vI:Value) (ht hi:List (Value × Int)) (n b i:Nat) (o:Op) (hk:o.k=2) (h:Inv w0 w W Ps vd vr N vT vI ht hi n b) (hil:i < Ps.length) (hn:n≤100000) (hb:b≤1048576) (hs:o.s.size≤1048576) (hts:o.t.size≤1048576) :
  Calls Tryz.prog 93 #[.pointer (some ⟨W,0,none⟩),.int .i64 (i:Int),.agg o.cells] w (StPost w0 W Ps.length (n+1) (b+o.t.size) N ht.length hi.length):=by
 obtain⟨ok,oa,okk,s,t,kv,c0,c1,c2⟩:=o
 simp only at hk hs hts
 subst hk
 unfold Op.cells
 have h1:=h.below ((Below.refl _ w).alloc nlr (.cells #[.int .i64 2,.int .i64 oa,.int .i64 okk,.string s,.string t,kv,.int .i64 c0,.int .i64 c1,.int .i64 c2] 102))
 have hbox:=heap_alloc_new w (.cells #[.int .i64 2,.int .i64 oa,.int .i64 okk,.string s,.string t,kv,.int .i64 c0,.int .i64 c1,.int .i64 c2] 102)
 obtain⟨g,cap,g',cap',e1,e2,q1,q2⟩:=h1.ptr i hil
 obtain⟨hpr,hsm⟩:=h1.pr Ps[i] (List.getElem_mem _)
 have hfit:=hsm.fit hn hb hpr.ok.2
 have x0:=h1.wat.cell.1
 have x1:=h1.wat.cell.2.1
 rw[e1] at x0
 rw[e2] at x1
 have hiz:(i:Int) < (Ps.length:Int):=by omega
 have hi0:¬ (i:Int) < 0:=by omega
 have hnb:=not_own hpr hbox (by decide)
 have hC:=Pk.p_create _ _ _ _ _ _ n b s hpr.half hsm hn hs
 have H1:=hde h1
 have HS:=hde hsm
 have HF:=hde hfit
 have HB:=hde (And.intro hbox hnb)
 clear h h1 hpr hsm hfit e1 e2 hbox hnb
 go_enter Tryz.func93,Tryz.ntmps93
 go_wp2_with fail
 refine hC.mono ?_
 rintro e w1 ⟨rfl,hh⟩
 have hbx:w1.heap[w.heap.size]? = _:=(hh.kept.block w.heap.size (by simp) (uh HB).2).trans (uh HB).1
 have y3:w1.cell? ⟨w.heap.size,3,none⟩=some (.string s):=by rw[cell_of_row w1 _ 3 _ _ _ hbx];rfl
 have y4:w1.cell? ⟨w.heap.size,4,none⟩=some (.string t):=by rw[cell_of_row w1 _ 4 _ _ _ hbx];rfl
 have rC:=Pk.r_create s ⟨#[]⟩ hh (uh HF)
 unfold opV at rC
 clear hC hbx hh
 go_wp2_with fail
 refine rC.mono ?_
 rintro e w2 ⟨rfl,hh2⟩
 have HH:=hde hh2
 clear rC hh2 y3 y4
 obtain⟨r,hr⟩:∃ r,((Ps[i]).R.create s).1=r:=⟨_,rfl⟩
 rw[hr]
 have hrr:(r == r)=true:=beq_iff_eq.2 rfl
 have HR:=hde hr
 clear hr
 go_wp2_with (go_at_call 16;refine(num_any _ _).mono ?_;rintro e w' ⟨rfl,hw⟩;obtain rfl:=hw.symm)
 go_ret
 obtain⟨O',hI⟩:=(uh H1).step i hil (uh HH) (((uh HS).create s).mono nlr (by omega)) (by omega:n≤n+1) (by omega:b≤b+t.size)
 exact⟨rfl,_,_,_,_,_,_,_,_,hI,List.length_set,by omega,by omega,by omega⟩
theorem does_append (w0 w:World) (W:Nat) (Ps:List Pr) (vd vr:Value) (N:Nat) (vT vI:Value) (ht hi:List (Value × Int)) (n b i:Nat) (o:Op) (hk:o.k=3) (h:Inv w0 w W Ps vd vr N vT vI ht hi n b) (hil:i < Ps.length) (hn:n≤100000) (hb:b≤1048576) (hs:o.s.size≤1048576) (hts:o.t.size≤1048576) :
  Calls Tryz.prog 93 #[.pointer (some ⟨W,0,none⟩),.int .i64 (i:Int),.agg o.cells] w (StPost w0 W Ps.length (n+1) (b+o.t.size) N ht.length hi.length):=by
 obtain⟨ok,oa,okk,s,t,kv,c0,c1,c2⟩:=o
 simp only at hk hs hts
 subst hk
 unfold Op.cells
 have h1:=h.below ((Below.refl _ w).alloc nlr (.cells #[.int .i64 3,.int .i64 oa,.int .i64 okk,.string s,.string t,kv,.int .i64 c0,.int .i64 c1,.int .i64 c2] 102))
 have hbox:=heap_alloc_new w (.cells #[.int .i64 3,.int .i64 oa,.int .i64 okk,.string s,.string t,kv,.int .i64 c0,.int .i64 c1,.int .i64 c2] 102)
 obtain⟨g,cap,g',cap',e1,e2,q1,q2⟩:=h1.ptr i hil
 obtain⟨hpr,hsm⟩:=h1.pr Ps[i] (List.getElem_mem _)
 have hfit:=hsm.fit hn hb hpr.ok.2
 have x0:=h1.wat.cell.1
 have x1:=h1.wat.cell.2.1
 rw[e1] at x0
 rw[e2] at x1
 have hiz:(i:Int) < (Ps.length:Int):=by omega
 have hi0:¬ (i:Int) < 0:=by omega
 have hnb:=not_own hpr hbox (by decide)
 have hC:=Pk.p_append _ _ _ _ _ _ n b s t hpr.half hsm hn hb hts
 have H1:=hde h1
 have HS:=hde hsm
 have HF:=hde hfit
 have HB:=hde (And.intro hbox hnb)
 clear h h1 hpr hsm hfit e1 e2 hbox hnb
 go_enter Tryz.func93,Tryz.ntmps93
 go_wp2_with fail
 refine hC.mono ?_
 rintro e w1 ⟨rfl,hh⟩
 have hbx:w1.heap[w.heap.size]? = _:=(hh.kept.block w.heap.size (by simp) (uh HB).2).trans (uh HB).1
 have y3:w1.cell? ⟨w.heap.size,3,none⟩=some (.string s):=by rw[cell_of_row w1 _ 3 _ _ _ hbx];rfl
 have y4:w1.cell? ⟨w.heap.size,4,none⟩=some (.string t):=by rw[cell_of_row w1 _ 4 _ _ _ hbx];rfl
 have rC:=Pk.r_append s t hh (uh HF) hts
 unfold opV at rC
 clear hC hbx hh
 go_wp2_with fail
 refine rC.mono ?_
 rintro e w2 ⟨rfl,hh2⟩
 have HH:=hde hh2
 clear rC hh2 y3 y4
 obtain⟨r,hr⟩:∃ r,((Ps[i]).R.append s t).1=r:=⟨_,rfl⟩
 rw[hr]
 have hrr:(r == r)=true:=beq_iff_eq.2 rfl
 have HR:=hde hr
 clear hr
 go_wp2_with (go_at_call 16;refine(num_any _ _).mono ?_;rintro e w' ⟨rfl,hw⟩;obtain rfl:=hw.symm)
 go_ret
 obtain⟨O',hI⟩:=(uh H1).step i hil (uh HH) (((uh HS).append s t).mono (by omega) nlr) (by omega:n≤n+1) (by omega:b≤b+t.size)
 exact⟨rfl,_,_,_,_,_,_,_,_,hI,List.length_set,by omega,by omega,by omega⟩
theorem does_sync (w0 w:World) (W:Nat) (Ps:List Pr) (vd vr:Value) (N:Nat) (vT vI:Value) (ht hi:List (Value × Int)) (n b i:Nat) (o:Op) (hk:o.k=4) (h:Inv w0 w W Ps vd vr N vT vI ht hi n b) (hil:i < Ps.length) (hn:n≤100000) (hb:b≤1048576) (hs:o.s.size≤1048576) (hts:o.t.size≤1048576) :
  Calls Tryz.prog 93 #[.pointer (some ⟨W,0,none⟩),.int .i64 (i:Int),.agg o.cells] w (StPost w0 W Ps.length (n+1) (b+o.t.size) N ht.length hi.length):=by
 obtain⟨ok,oa,okk,s,t,kv,c0,c1,c2⟩:=o
 simp only at hk hs hts
 subst hk
 unfold Op.cells
 have h1:=h.below ((Below.refl _ w).alloc nlr (.cells #[.int .i64 4,.int .i64 oa,.int .i64 okk,.string s,.string t,kv,.int .i64 c0,.int .i64 c1,.int .i64 c2] 102))
 have hbox:=heap_alloc_new w (.cells #[.int .i64 4,.int .i64 oa,.int .i64 okk,.string s,.string t,kv,.int .i64 c0,.int .i64 c1,.int .i64 c2] 102)
 obtain⟨g,cap,g',cap',e1,e2,q1,q2⟩:=h1.ptr i hil
 obtain⟨hpr,hsm⟩:=h1.pr Ps[i] (List.getElem_mem _)
 have hfit:=hsm.fit hn hb hpr.ok.2
 have x0:=h1.wat.cell.1
 have x1:=h1.wat.cell.2.1
 rw[e1] at x0
 rw[e2] at x1
 have hiz:(i:Int) < (Ps.length:Int):=by omega
 have hi0:¬ (i:Int) < 0:=by omega
 have hnb:=not_own hpr hbox (by decide)
 have hC:=Pk.p_sync _ _ _ _ _ _ n b s hpr.half hsm hn
 have H1:=hde h1
 have HS:=hde hsm
 have HF:=hde hfit
 have HB:=hde (And.intro hbox hnb)
 clear h h1 hpr hsm hfit e1 e2 hbox hnb
 go_enter Tryz.func93,Tryz.ntmps93
 go_wp2_with fail
 refine hC.mono ?_
 rintro e w1 ⟨rfl,hh⟩
 have hbx:w1.heap[w.heap.size]? = _:=(hh.kept.block w.heap.size (by simp) (uh HB).2).trans (uh HB).1
 have y3:w1.cell? ⟨w.heap.size,3,none⟩=some (.string s):=by rw[cell_of_row w1 _ 3 _ _ _ hbx];rfl
 have y4:w1.cell? ⟨w.heap.size,4,none⟩=some (.string t):=by rw[cell_of_row w1 _ 4 _ _ _ hbx];rfl
 have rC:=Pk.r_sync s ⟨#[]⟩ hh (uh HF)
 unfold opV at rC
 clear hC hbx hh
 go_wp2_with fail
 refine rC.mono ?_
 rintro e w2 ⟨rfl,hh2⟩
 have HH:=hde hh2
 clear rC hh2 y3 y4
 obtain⟨r,hr⟩:∃ r,((Ps[i]).R.sync s).1=r:=⟨_,rfl⟩
 rw[hr]
 have hrr:(r == r)=true:=beq_iff_eq.2 rfl
 have HR:=hde hr
 clear hr
 go_wp2_with (go_at_call 16;refine(num_any _ _).mono ?_;rintro e w' ⟨rfl,hw⟩;obtain rfl:=hw.symm)
 go_ret
 obtain⟨O',hI⟩:=(uh H1).step i hil (uh HH) (((uh HS).sync s).mono (by omega) (by omega)) (by omega:n≤n+1) (by omega:b≤b+t.size)
 exact⟨rfl,_,_,_,_,_,_,_,_,hI,List.length_set,by omega,by omega,by omega⟩
theorem does_rename (w0 w:World) (W:Nat) (Ps:List Pr) (vd vr:Value) (N:Nat) (vT vI:Value) (ht hi:List (Value × Int)) (n b i:Nat) (o:Op) (hk:o.k=5) (h:Inv w0 w W Ps vd vr N vT vI ht hi n b) (hil:i < Ps.length) (hn:n≤100000) (hb:b≤1048576) (hs:o.s.size≤1048576) (hts:o.t.size≤1048576) :
  Calls Tryz.prog 93 #[.pointer (some ⟨W,0,none⟩),.int .i64 (i:Int),.agg o.cells] w (StPost w0 W Ps.length (n+1) (b+o.t.size) N ht.length hi.length):=by
 obtain⟨ok,oa,okk,s,t,kv,c0,c1,c2⟩:=o
 simp only at hk hs hts
 subst hk
 unfold Op.cells
 have h1:=h.below ((Below.refl _ w).alloc nlr (.cells #[.int .i64 5,.int .i64 oa,.int .i64 okk,.string s,.string t,kv,.int .i64 c0,.int .i64 c1,.int .i64 c2] 102))
 have hbox:=heap_alloc_new w (.cells #[.int .i64 5,.int .i64 oa,.int .i64 okk,.string s,.string t,kv,.int .i64 c0,.int .i64 c1,.int .i64 c2] 102)
 obtain⟨g,cap,g',cap',e1,e2,q1,q2⟩:=h1.ptr i hil
 obtain⟨hpr,hsm⟩:=h1.pr Ps[i] (List.getElem_mem _)
 have hfit:=hsm.fit hn hb hpr.ok.2
 have x0:=h1.wat.cell.1
 have x1:=h1.wat.cell.2.1
 rw[e1] at x0
 rw[e2] at x1
 have hiz:(i:Int) < (Ps.length:Int):=by omega
 have hi0:¬ (i:Int) < 0:=by omega
 have hnb:=not_own hpr hbox (by decide)
 have hC:=Pk.p_rename _ _ _ _ _ _ n b s t hpr.half hsm hn hs hts
 have H1:=hde h1
 have HS:=hde hsm
 have HF:=hde hfit
 have HB:=hde (And.intro hbox hnb)
 clear h h1 hpr hsm hfit e1 e2 hbox hnb
 go_enter Tryz.func93,Tryz.ntmps93
 go_wp2_with fail
 refine hC.mono ?_
 rintro e w1 ⟨rfl,hh⟩
 have hbx:w1.heap[w.heap.size]? = _:=(hh.kept.block w.heap.size (by simp) (uh HB).2).trans (uh HB).1
 have y3:w1.cell? ⟨w.heap.size,3,none⟩=some (.string s):=by rw[cell_of_row w1 _ 3 _ _ _ hbx];rfl
 have y4:w1.cell? ⟨w.heap.size,4,none⟩=some (.string t):=by rw[cell_of_row w1 _ 4 _ _ _ hbx];rfl
 have rC:=Pk.r_rename s t hh (uh HF)
 unfold opV at rC
 clear hC hbx hh
 go_wp2_with fail
 refine rC.mono ?_
 rintro e w2 ⟨rfl,hh2⟩
 have HH:=hde hh2
 clear rC hh2 y3 y4
 obtain⟨r,hr⟩:∃ r,((Ps[i]).R.rename s t).1=r:=⟨_,rfl⟩
 rw[hr]
 have hrr:(r == r)=true:=beq_iff_eq.2 rfl
 have HR:=hde hr
 clear hr
 go_wp2_with (go_at_call 16;refine(num_any _ _).mono ?_;rintro e w' ⟨rfl,hw⟩;obtain rfl:=hw.symm)
 go_ret
 obtain⟨O',hI⟩:=(uh H1).step i hil (uh HH) (((uh HS).rename s t).mono nlr (by omega)) (by omega:n≤n+1) (by omega:b≤b+t.size)
 exact⟨rfl,_,_,_,_,_,_,_,_,hI,List.length_set,by omega,by omega,by omega⟩
theorem does_remove (w0 w:World) (W:Nat) (Ps:List Pr) (vd vr:Value) (N:Nat) (vT vI:Value) (ht hi:List (Value × Int)) (n b i:Nat) (o:Op) (hk:o.k=6) (h:Inv w0 w W Ps vd vr N vT vI ht hi n b) (hil:i < Ps.length) (hn:n≤100000) (hb:b≤1048576) (hs:o.s.size≤1048576) (hts:o.t.size≤1048576) :
  Calls Tryz.prog 93 #[.pointer (some ⟨W,0,none⟩),.int .i64 (i:Int),.agg o.cells] w (StPost w0 W Ps.length (n+1) (b+o.t.size) N ht.length hi.length):=by
 obtain⟨ok,oa,okk,s,t,kv,c0,c1,c2⟩:=o
 simp only at hk hs hts
 subst hk
 unfold Op.cells
 have h1:=h.below ((Below.refl _ w).alloc nlr (.cells #[.int .i64 6,.int .i64 oa,.int .i64 okk,.string s,.string t,kv,.int .i64 c0,.int .i64 c1,.int .i64 c2] 102))
 have hbox:=heap_alloc_new w (.cells #[.int .i64 6,.int .i64 oa,.int .i64 okk,.string s,.string t,kv,.int .i64 c0,.int .i64 c1,.int .i64 c2] 102)
 obtain⟨g,cap,g',cap',e1,e2,q1,q2⟩:=h1.ptr i hil
 obtain⟨hpr,hsm⟩:=h1.pr Ps[i] (List.getElem_mem _)
 have hfit:=hsm.fit hn hb hpr.ok.2
 have x0:=h1.wat.cell.1
 have x1:=h1.wat.cell.2.1
 rw[e1] at x0
 rw[e2] at x1
 have hiz:(i:Int) < (Ps.length:Int):=by omega
 have hi0:¬ (i:Int) < 0:=by omega
 have hnb:=not_own hpr hbox (by decide)
 have hC:=Pk.p_remove _ _ _ _ _ _ n b s hpr.half hsm hn hs
 have H1:=hde h1
 have HS:=hde hsm
 have HF:=hde hfit
 have HB:=hde (And.intro hbox hnb)
 clear h h1 hpr hsm hfit e1 e2 hbox hnb
 go_enter Tryz.func93,Tryz.ntmps93
 go_wp2_with fail
 refine hC.mono ?_
 rintro e w1 ⟨rfl,hh⟩
 have hbx:w1.heap[w.heap.size]? = _:=(hh.kept.block w.heap.size (by simp) (uh HB).2).trans (uh HB).1
 have y3:w1.cell? ⟨w.heap.size,3,none⟩=some (.string s):=by rw[cell_of_row w1 _ 3 _ _ _ hbx];rfl
 have y4:w1.cell? ⟨w.heap.size,4,none⟩=some (.string t):=by rw[cell_of_row w1 _ 4 _ _ _ hbx];rfl
 have rC:=Pk.r_remove s ⟨#[]⟩ hh (uh HF)
 unfold opV at rC
 clear hC hbx hh
 go_wp2_with fail
 refine rC.mono ?_
 rintro e w2 ⟨rfl,hh2⟩
 have HH:=hde hh2
 clear rC hh2 y3 y4
 obtain⟨r,hr⟩:∃ r,((Ps[i]).R.remove s).1=r:=⟨_,rfl⟩
 rw[hr]
 have hrr:(r == r)=true:=beq_iff_eq.2 rfl
 have HR:=hde hr
 clear hr
 go_wp2_with (go_at_call 16;refine(num_any _ _).mono ?_;rintro e w' ⟨rfl,hw⟩;obtain rfl:=hw.symm)
 go_ret
 obtain⟨O',hI⟩:=(uh H1).step i hil (uh HH) (((uh HS).remove s).mono nlr (by omega)) (by omega:n≤n+1) (by omega:b≤b+t.size)
 exact⟨rfl,_,_,_,_,_,_,_,_,hI,List.length_set,by omega,by omega,by omega⟩
theorem does_syncDir (w0 w:World) (W:Nat) (Ps:List Pr) (vd vr:Value) (N:Nat) (vT vI:Value) (ht hi:List (Value × Int)) (n b i:Nat) (o:Op) (hk:o.k=7) (h:Inv w0 w W Ps vd vr N vT vI ht hi n b) (hil:i < Ps.length) (hn:n≤100000) (hb:b≤1048576) (hs:o.s.size≤1048576) (hts:o.t.size≤1048576) :
  Calls Tryz.prog 93 #[.pointer (some ⟨W,0,none⟩),.int .i64 (i:Int),.agg o.cells] w (StPost w0 W Ps.length (n+1) (b+o.t.size) N ht.length hi.length):=by
 obtain⟨ok,oa,okk,s,t,kv,c0,c1,c2⟩:=o
 simp only at hk hs hts
 subst hk
 unfold Op.cells
 have h1:=h.below ((Below.refl _ w).alloc nlr (.cells #[.int .i64 7,.int .i64 oa,.int .i64 okk,.string s,.string t,kv,.int .i64 c0,.int .i64 c1,.int .i64 c2] 102))
 have hbox:=heap_alloc_new w (.cells #[.int .i64 7,.int .i64 oa,.int .i64 okk,.string s,.string t,kv,.int .i64 c0,.int .i64 c1,.int .i64 c2] 102)
 obtain⟨g,cap,g',cap',e1,e2,q1,q2⟩:=h1.ptr i hil
 obtain⟨hpr,hsm⟩:=h1.pr Ps[i] (List.getElem_mem _)
 have hfit:=hsm.fit hn hb hpr.ok.2
 have x0:=h1.wat.cell.1
 have x1:=h1.wat.cell.2.1
 rw[e1] at x0
 rw[e2] at x1
 have hiz:(i:Int) < (Ps.length:Int):=by omega
 have hi0:¬ (i:Int) < 0:=by omega
 have hnb:=not_own hpr hbox (by decide)
 have hC:=Pk.p_syncDir _ _ _ _ _ _ n b hpr.half hsm hn
 have H1:=hde h1
 have HS:=hde hsm
 have HF:=hde hfit
 have HB:=hde (And.intro hbox hnb)
 clear h h1 hpr hsm hfit e1 e2 hbox hnb
 go_enter Tryz.func93,Tryz.ntmps93
 go_wp2_with fail
 refine hC.mono ?_
 rintro e w1 ⟨rfl,hh⟩
 have hbx:w1.heap[w.heap.size]? = _:=(hh.kept.block w.heap.size (by simp) (uh HB).2).trans (uh HB).1
 have y3:w1.cell? ⟨w.heap.size,3,none⟩=some (.string s):=by rw[cell_of_row w1 _ 3 _ _ _ hbx];rfl
 have y4:w1.cell? ⟨w.heap.size,4,none⟩=some (.string t):=by rw[cell_of_row w1 _ 4 _ _ _ hbx];rfl
 have rC:=Pk.r_syncDir ⟨#[]⟩ ⟨#[]⟩ hh (uh HF)
 unfold opV at rC
 clear hC hbx hh
 go_wp2_with fail
 refine rC.mono ?_
 rintro e w2 ⟨rfl,hh2⟩
 have HH:=hde hh2
 clear rC hh2 y3 y4
 obtain⟨r,hr⟩:∃ r,(Ps[i]).R.syncDir.1=r:=⟨_,rfl⟩
 rw[hr]
 have hrr:(r == r)=true:=beq_iff_eq.2 rfl
 have HR:=hde hr
 clear hr
 go_wp2_with (go_at_call 16;refine(num_any _ _).mono ?_;rintro e w' ⟨rfl,hw⟩;obtain rfl:=hw.symm)
 go_ret
 obtain⟨O',hI⟩:=(uh H1).step i hil (uh HH) ((uh HS).syncDir.mono (by omega) (by omega)) (by omega:n≤n+1) (by omega:b≤b+t.size)
 exact⟨rfl,_,_,_,_,_,_,_,_,hI,List.length_set,by omega,by omega,by omega⟩
theorem does_other (w0 w:World) (W:Nat) (Ps:List Pr) (vd vr:Value) (N:Nat) (vT vI:Value) (ht hi:List (Value × Int)) (n b i:Nat) (o:Op) (hk:o.k < 2∨7 < o.k) (h:Inv w0 w W Ps vd vr N vT vI ht hi n b) (hil:i < Ps.length) :
  Calls Tryz.prog 93 #[.pointer (some ⟨W,0,none⟩),.int .i64 (i:Int),.agg o.cells] w (StPost w0 W Ps.length n b N ht.length hi.length):=by
 obtain⟨ok,oa,okk,s,t,kv,c0,c1,c2⟩:=o
 simp only at hk
 unfold Op.cells
 have h1:=h.below ((Below.refl _ w).alloc nlr (.cells #[.int .i64 ok,.int .i64 oa,.int .i64 okk,.string s,.string t,kv,.int .i64 c0,.int .i64 c1,.int .i64 c2] 102))
 obtain⟨g,cap,g',cap',e1,e2,q1,q2⟩:=h1.ptr i hil
 have x0:=h1.wat.cell.1
 have x1:=h1.wat.cell.2.1
 rw[e1] at x0
 rw[e2] at x1
 have hiz:(i:Int) < (Ps.length:Int):=by omega
 have hi0:¬ (i:Int) < 0:=by omega
 have k2:(ok == 2)=false:=beq_eq_false_iff_ne.2 (by omega)
 have k3:(ok == 3)=false:=beq_eq_false_iff_ne.2 (by omega)
 have k4:(ok == 4)=false:=beq_eq_false_iff_ne.2 (by omega)
 have k5:(ok == 5)=false:=beq_eq_false_iff_ne.2 (by omega)
 have k6:(ok == 6)=false:=beq_eq_false_iff_ne.2 (by omega)
 have k7:(ok == 7)=false:=beq_eq_false_iff_ne.2 (by omega)
 have H1:=hde h1
 clear h h1 e1 e2 hk
 go_enter Tryz.func93,Tryz.ntmps93
 go_wp2_with (go_at_call 16;refine(num_any _ _).mono ?_;rintro e w' ⟨rfl,hw⟩;obtain rfl:=hw.symm)
 go_ret
 exact⟨rfl,_,_,_,_,_,_,_,_,uh H1,rfl,by omega,by omega,by omega⟩
theorem reads_any (w0 w:World) (W:Nat) (Ps:List Pr) (vd vr:Value) (N:Nat) (vT vI:Value) (ht hi:List (Value × Int)) (n b i:Nat) (s:ByteArray) (h:Inv w0 w W Ps vd vr N vT vI ht hi n b) (hil:i < Ps.length) (hn:n≤100000) (hb:b≤1048576) :
  Calls Tryz.prog 51 #[.pointer (some ⟨W,0,none⟩),.int .i64 (i:Int),.string s] w fun e w'=>e = .returned (.bool true)∧Below w.heap.size w w':=by
 obtain⟨g,cap,g',cap',e1,e2,q1,_⟩:=h.ptr i hil
 obtain⟨hpr,hsm⟩:=h.pr Ps[i] (List.getElem_mem _)
 have hfit:=hsm.fit hn hb hpr.ok.2
 have x0:=h.wat.cell.1
 rw[e1] at x0
 have hiz:(i:Int) < (Ps.length:Int):=by omega
 have hi0:¬ (i:Int) < 0:=by omega
 have hC:=Pk.p_read s hpr hsm hn
 have H:=hde h
 have HF:=hde hfit
 have HE:=hde (And.intro e1 e2)
 clear h hpr hsm hfit e1 e2
 go_enter Tryz.func51,Tryz.ntmps51
 go_wp2_with fail
 refine hC.mono ?_
 rintro e w1 ⟨rfl,hb1⟩
 have h1:=(uh H).below hb1
 obtain⟨_,_,_,_,f1,f2,_,q2⟩:=h1.ptr i hil
 rw[(uh HE).2] at f2
 injection f2 with f2 _ f3
 injection f2 with f2
 injection f2 with f2
 subst f2 f3
 have x1:=h1.wat.cell.2.1
 rw[(uh HE).2] at x1
 have rC:=Pk.r_read s (h1.pr Ps[i] (List.getElem_mem _)).1 (uh HF)
 have HB1:=hde hb1
 clear hC h1 f1 hb1 x0 q1
 go_wp2_with fail
 refine rC.mono ?_
 rintro e w2 ⟨rfl,hb2⟩
 have HB:=hde ((uh HB1).trans (hb2.mono (uh HB1).size))
 clear rC hb2
 obtain⟨r,hr⟩:∃ r,(Ps[i]).R.rdE s=r:=⟨_,rfl⟩
 obtain⟨u,hu⟩:∃ u,(Ps[i]).R.rd s=u:=⟨_,rfl⟩
 rw[hr,hu]
 have hrr:(r == r)=true:=beq_iff_eq.2 rfl
 have huu:(u.toList == u.toList)=true:=Rd.str_is rfl
 clear hr hu
 go_wp2_with (go_at_call 16;refine(num_any _ _).mono ?_;rintro e w' ⟨rfl,hw⟩;obtain rfl:=hw.symm)
 go_ret
 exact⟨rfl,uh HB⟩
theorem used_any (w0 w:World) (W:Nat) (Ps:List Pr) (vd vr:Value) (N:Nat) (vT vI:Value) (ht hi:List (Value × Int)) (n b i:Nat) (h:Inv w0 w W Ps vd vr N vT vI ht hi n b) (hil:i < Ps.length) (hn:n≤100000) (hb:b≤1048576) :
  Calls Tryz.prog 52 #[.pointer (some ⟨W,0,none⟩),.int .i64 (i:Int)] w fun e w'=>e = .returned (.bool true)∧Below w.heap.size w w':=by
 obtain⟨g,cap,g',cap',e1,e2,q1,_⟩:=h.ptr i hil
 obtain⟨hpr,hsm⟩:=h.pr Ps[i] (List.getElem_mem _)
 have hfit:=hsm.fit hn hb hpr.ok.2
 have x0:=h.wat.cell.1
 rw[e1] at x0
 have hiz:(i:Int) < (Ps.length:Int):=by omega
 have hi0:¬ (i:Int) < 0:=by omega
 have hC:=Pk.p_used hpr hsm hn hb
 have H:=hde h
 have HF:=hde hfit
 have HE:=hde (And.intro e1 e2)
 clear h hpr hsm hfit e1 e2
 go_enter Tryz.func52,Tryz.ntmps52
 go_wp2_with fail
 refine hC.mono ?_
 rintro e w1 ⟨rfl,hb1⟩
 have h1:=(uh H).below hb1
 obtain⟨_,_,_,_,f1,f2,_,q2⟩:=h1.ptr i hil
 rw[(uh HE).2] at f2
 injection f2 with f2 _ f3
 injection f2 with f2
 injection f2 with f2
 subst f2 f3
 have x1:=h1.wat.cell.2.1
 rw[(uh HE).2] at x1
 have rC:=Pk.r_used (h1.pr Ps[i] (List.getElem_mem _)).1 (uh HF)
 have HB1:=hde hb1
 clear hC h1 f1 hb1 x0 q1
 go_wp2_with fail
 refine rC.mono ?_
 rintro e w2 ⟨rfl,hb2⟩
 have HB:=hde ((uh HB1).trans (hb2.mono (uh HB1).size))
 clear rC hb2
 obtain⟨r,hr⟩:∃ r,((Ps[i]).R.use (Ps[i]).R.now:Nat)=r:=⟨_,rfl⟩
 rw[hr]
 have hrr:((r:Int) == (r:Int))=true:=beq_iff_eq.2 rfl
 clear hr
 go_wp2
 go_ret
 exact⟨by first | rfl | simp,uh HB⟩
end Go.Proofs.YteflnddphpjahaaGreatDoor.Dl
