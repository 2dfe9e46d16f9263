import Derived.Test.YteflnddphpjahaaGreatDoorCmRqE
import Derived.Test.YteflnddphpjahaaGreatDoorCmRfCtoRfG
import Derived.Test.YteflnddphpjahaaGreatDoorCmRqI
set_option linter.unusedVariables false
set_option linter.unusedSimpArgs false
set_option maxRecDepth 100000
set_option maxHeartbeats 16000000
namespace Go.Proofs.YteflnddphpjahaaGreatDoor
open Go.RowKit
def BPost (P:Sp.Pg) (vs:List Int) (n:Nat) (w:World) (e:Ending) (w':World):Prop :=
 Below w.heap.size w w'∧∃ sl,e = .returned (.agg #[.int .i64 0,sl,.int .i64 (Sp.noneK P.al)])∧w'.ownsRow w.heap.size 131 4 sl n (vxC vs [] [] (List.replicate n (Sp.noneK P.by')) n)
theorem pbegin (B:Nat) (pf:Option Addr) (n kf:Nat) (pe:Option Addr) (ke limit:Nat) (P:Sp.Pg) (vs:List Int) (w:World) (hp:PrgAt w B P) (hv:IntsAt w .i64 pf vs) (hl:vs.length=n) (hn:n≤64) :
  Calls Tryz.prog 25 #[.agg (pjobA B pf n kf pe ke limit)] w (BPost P vs n w):=by
 obtain⟨t2,ht2,hva,hvb,hvc⟩:=info_parts Tryz.info_vertex
 generalize hO:BPost P vs n w=O
 replace hO:=hde hO
 have HP:=hde hp
 have HV:=hde hv
 have HL:=hde hl
 have HB0:=hde (two_new w (pjobA B pf n kf pe ke limit) #[.int .i64 0,.slice none 0 0,.int .i64 0] 86 91)
 clear hp hv hl
 unfold pjobA at *
 go_enter Tryz.func25,Tryz.ntmps25
 go_wp2_with fail
 generalize hW:World.alloc (World.alloc _ _) _=W0
 obtain⟨hbj,hbr,hb0,hz0⟩:=uh HB0 W0 hW.symm
 have HBJ:=hde hbj
 have HBR:=hde hbr
 have HZ0:=hde hz0
 clear hW HB0 hbj hbr hz0
 go_loopw [3,9] (fun vv i wr=>∃ (k:Nat) (v:Value),k≤n∧i = .int .i64 k∧vv=v∧Hid (wr.ownsRow (w.heap.size+1+1) 131 4 v k (vxC vs [] [] [] k))∧Below (w.heap.size+1+1) W0 wr) (fun _ i _=>n - (intOf i).toNat)
 case atStart=>exact⟨0,_,Nat.zero_le _,rfl,rfl,World.ownsRow_nil _ _ _ _,Below.refl _ _⟩
 case round =>
  obtain⟨k,v,hk,rfl,hvv,HR,hb⟩:=hrel
  obtain rfl:=hvv.symm
  clear hvv
  have hbw:Below w.heap.size w wr:=hb0.trans (hb.mono (by omega))
  have hzw:w.heap.size+1+1≤wr.heap.size:=by have:=hb.size;have:=uh HZ0;omega
  by_cases hlt:k < n
  ·have hltz:(k:Int) < (n:Int):=by omega
   have g0:(0:Int)≤(k:Int):=Int.natCast_nonneg _
   have hkv:k < vs.length:=by rw[uh HL];exact hlt
   obtain⟨g,rfl,hg,d0⟩:=((uh HV).below hbw) k hkv
   have HTK:Hid (vxC vs [] [] [] (k+1)=vxC vs [] [] [] k++[.int .i64 vs[k],.bool false,.int .i64 0,.int .i64 0]):=by
    show _=_
    rw[vxC_succ,List.getD_eq_getElem?_getD (l:=vs),List.getElem?_eq_getElem hkv];rfl
   generalize vs[k]=x0 at *
   have hr:=uh HR
   go_wp2_with (first
    | (at_builtin;go_must (refine wpList_append_lies _ rfl (.tmp 13) (.tmp 16) 89 rfl (w.heap.size+1+1) 131 t2 _ 4 32 Tryz.underlying89 ht2 hva hvb hvc rfl (by omega) v _ _ rfl (hr.alloc _) ⟨wr.heap.size,0,none⟩ 1 1 [.int .i64 x0,.bool false,.int .i64 0,.int .i64 0] rfl rfl (World.news_of_block (cs := #[.int .i64 x0,.bool false,.int .i64 0,.int .i64 0]) (t:=131) (fr:=(0,0)) (heap_alloc_new wr _)) (by simp[Value.oneCell']) (by omega) (by unfold maxLen;omega) (by omega) (by simp;omega) (wr.heap.size+1) (by simp) ?_;intro g2 cp2 w2 hown hgrow hat hltq))
    | go_in)
   have hb2:Below (w.heap.size+1+1) W0 w2:=(hb.alloc hzw _).grown hgrow (by simp;omega) (fun q hq=>(hr.lt q hq).1)
   have HR2:Hid (w2.ownsRow (w.heap.size+1+1) 131 4 (.slice (some ⟨g2,0,none⟩) (k+1) cp2) (k+1) (vxC vs [] [] [] (k+1))):=by
    show World.ownsRow _ _ _ _ _ _ _
    rw[uh HTK];exact hown
   clear hown hgrow hat hltq hr
   go_wp2
   go_roundw
   case rel=>exact⟨k+1,_,by omega,by go_num,rfl,HR2,hb2⟩
   case measure=>simp[intOf];omega
  ·obtain rfl:k=n:=by omega
   have hltz:¬ (k:Int) < (k:Int):=by omega
   obtain⟨p,cap,rfl,hvx⟩:=vx_of_own (all:=0) (uh HR)
   have HU:=hde (puntold B pf k kf pe ke limit 0 p k cap P ⟨vs,[],[],[],0⟩ wr ((uh HP).below hbw) hvx hn)
   have hJ:wr.heap[w.heap.size]? = _:=(hb.block _ (by omega)).trans (uh HBJ)
   have j0:wr.cell? ⟨w.heap.size,0,none⟩=some (.pointer (some ⟨B,0,none⟩)):=by simp[World.cell?,hJ]
   have j1:wr.cell? ⟨w.heap.size,1,none⟩=some (.slice pf k kf):=by simp[World.cell?,hJ]
   have j2:wr.cell? ⟨w.heap.size,2,none⟩=some (.slice pe k ke):=by simp[World.cell?,hJ]
   have j3:wr.cell? ⟨w.heap.size,3,none⟩=some (.int .i64 limit):=by simp[World.cell?,hJ]
   have hR:wr.heap[w.heap.size+1]? = _:=(hb.block _ (by omega)).trans (uh HBR)
   have HRB:=hde hR
   clear hJ hR hvx
   unfold pjobA at HU
   go_wp2_with fail
   refine(uh HU).mono ?_
   rintro e w2 ⟨hb2,sl,rfl,ho2⟩
   have hrb:w2.heap[w.heap.size+1]? = _:=(hb2.block _ (by omega)).trans (uh HRB)
   have r0:w2.cell? ⟨w.heap.size+1,0,none⟩=some (.int .i64 0):=by simp[World.cell?,hrb]
   have r1:w2.cell? ⟨w.heap.size+1,1,none⟩=some (.slice none 0 0):=by simp[World.cell?,hrb]
   have r2:w2.cell? ⟨w.heap.size+1,2,none⟩=some (.int .i64 0):=by simp[World.cell?,hrb]
   have rf0:w2.frozen? ⟨w.heap.size+1,0,none⟩=false:=by simp[World.frozen?,hrb]
   have rf1:w2.frozen? ⟨w.heap.size+1,1,none⟩=false:=by simp[World.frozen?,hrb]
   have rf2:w2.frozen? ⟨w.heap.size+1,2,none⟩=false:=by simp[World.frozen?,hrb]
   obtain⟨q0,k0,e0,_⟩:=osl ho2
   subst e0
   obtain⟨na,HNA⟩:∃ na,Hid (Sp.noneK P.al=na):=⟨_,rfl⟩
   rw[uh HNA]
   have HFN:Hid (O (.returned (.agg #[.int .i64 0,.slice q0 k k0,.int .i64 na])) (pset3 w2 (w.heap.size+1) (.int .i64 0) (.slice q0 k k0) (.int .i64 na))):=by
    have h1:=own_low (own_pset3 ho2 (R:=w.heap.size+1) (by omega) (.int .i64 0) (.slice q0 k k0) (.int .i64 na)) (B:=w.heap.size) (by omega)
    show O _ _
    rw[← uh hO]
    exact⟨below_pset3 (hbw.trans (hb2.mono hbw.size)) (by omega) _ _ _,_,by rw[uh HNA],h1⟩
   clear hrb ho2 hb2 HRB HU
   go_wp2
   exact bodyPost_ret (v := .agg #[.int .i64 0,.slice q0 k k0,.int .i64 na]) (by simp[results,Tryz.results25,go_sem,r0,r1,r2]) rfl (uh HFN)
theorem CSS.drew {w:World} {C B:Nat} {vv rr gg ii sv:Value} {all:Int} {V:List Int} {R:List Bool} {G I:List Int} {S:List (Nat × Int)} (h:CSS w C B vv rr gg ii sv all V R G I S):CSS w.drew C B vv rr gg ii sv all V R G I S:=h.below (Below.refl _ _).drew
structure StT (W:World) (T L:Nat) (t:Sp.Tn) (sv:Value):Prop where
 tb:W.heap[T]? = some (.cells #[.int .i64 t.value,.bool t.rests,.int .i64 t.give,sv] 147 (0,0))
 row:W.ownsRow L 152 2 sv t.sent.length (sentCells t.sent)
 le:L≤T
theorem StT.below {W W':World} {T L:Nat} {t:Sp.Tn} {sv:Value} (h:StT W T L t sv) (hb:Below W.heap.size W W'):StT W' T L t sv :=
 ⟨(hb.block T (Array.getElem?_eq_some_iff.1 h.tb).1).trans h.tb,obl h.row hb,h.le⟩
theorem StT.set {W:World} {T L q i:Nat} {t:Sp.Tn} {sv v:Value} (h:StT W T L t sv) (hq:q < L):StT (W.setCell ⟨q,i,none⟩ v) T L t sv :=
 ⟨(Below.heap_setCell _ _ _ T (by have:=h.le;simp only;omega)).trans h.tb,ownsRow_setCell_below h.row (a:=⟨q,i,none⟩) hq v,h.le⟩
theorem three_new (w:World) (a b c:Array Value) (ta tb tc:TypeId):∀ W,W=((w.alloc (.cells a ta)).alloc (.cells b tb)).alloc (.cells c tc)→W.heap[w.heap.size]? = some (.cells a ta (0,0))∧W.heap[w.heap.size+1]? = some (.cells b tb (0,0))∧W.heap[w.heap.size+1+1]? = some (.cells c tc (0,0))∧Below w.heap.size w W∧W.heap.size=w.heap.size+1+1+1:=by
 rintro W rfl
 have z1:=World.size_alloc w (.cells a ta)
 generalize hA:w.alloc _=A at *
 have b1:A.heap[w.heap.size]? = some (.cells a ta (0,0)):=by rw[← hA];exact heap_alloc_new w _
 have hb1:Below w.heap.size w A:=by rw[← hA];exact(Below.refl _ _).alloc nlr _
 have z2:=World.size_alloc A (.cells b tb)
 have b2:=heap_alloc_new A (.cells b tb)
 have hb2:Below A.heap.size A (A.alloc (.cells b tb)):=(Below.refl _ _).alloc nlr _
 generalize A.alloc _=A2 at *
 have z3:=World.size_alloc A2 (.cells c tc)
 have b3:=heap_alloc_new A2 (.cells c tc)
 have hb3:Below A2.heap.size A2 (A2.alloc (.cells c tc)):=(Below.refl _ _).alloc nlr _
 generalize A2.alloc _=A3 at *
 rw[z1] at b2
 rw[z2,z1] at b3
 exact⟨(hb3.block _ (by omega)).trans ((hb2.block _ (by omega)).trans b1),(hb3.block _ (by omega)).trans b2,b3,(hb1.trans (hb2.mono hb1.size)).trans (hb3.mono (by omega)),by omega⟩
theorem own_some {w:World} {B e size m n kv:Nat} {p:Option Addr} {xs:List Value} (h:w.ownsRow B e size (.slice p n kv) m xs) (hm:m=n) (hn:0 < n):∃ g,p=some ⟨g,0,none⟩∧B≤g∧g < w.heap.size:=by
 subst hm
 obtain⟨g,cap,hv,h1,h2⟩:=h.form hn
 injection hv with hv _ _
 exact⟨g,hv,h1,h2⟩
namespace Sp
theorem stp_err {P:Pg} {Es:List Ed} {c:Cfg} {step i:Nat}:∀ (d k:Nat),stp P Es c step k = .error i→stp P Es c step (k+d) = .error i:=by
 intro d
 induction d with
 | zero=>intro k h;exact h
 | succ d ih=>intro k h;rw[← Nat.add_assoc,stp,ih k h]
theorem stp_skip {P:Pg} {Es:List Ed} {c:Cfg} {step k:Nat} {a:Acc} (h:stp P Es c step k = .ok a) (hw:awake c k step=false):stp P Es c step (k+1) = .ok ⟨a.val++[c.val.getD k 0],a.rst++[c.rst.getD k false],a.all,a.sent⟩:=by
 rw[stp,h];simp only[hw];rfl
theorem stp_bad {P:Pg} {Es:List Ed} {c:Cfg} {step k:Nat} {a:Acc} (h:stp P Es c step k = .ok a) (hw:awake c k step=true) (ht:turn P Es c k step=none):stp P Es c step (k+1) = .error k:=by
 rw[stp,h];simp only[hw,ht,if_true]
theorem stp_turn {P:Pg} {Es:List Ed} {c:Cfg} {step k:Nat} {a:Acc} {t:Tn} (h:stp P Es c step k = .ok a) (hw:awake c k step=true) (ht:turn P Es c k step=some t):stp P Es c step (k+1) = .ok ⟨a.val++[t.value],a.rst++[t.rests],joinK P.al a.all t.give,a.sent++t.sent⟩:=by
 rw[stp,h];simp only[hw,ht,if_true]
end Sp
def rset4 (W:World) (R:Nat) (a b c d:Value):World:=(((W.setCell ⟨R,0,none⟩ a).setCell ⟨R,1,none⟩ b).setCell ⟨R,2,none⟩ c).setCell ⟨R,3,none⟩ d
theorem rset4_blk {w:World} {R:Nat} {a b c d:Value} {t:Nat} (h:w.heap[R]? = some (.cells #[a,b,c,d] t (0,0))) (x0 x1 x2 x3:Value):(rset4 w R x0 x1 x2 x3).heap[R]? = some (.cells #[x0,x1,x2,x3] t (0,0)):=by
 have h1:=blk_set (i:=3) (blk_set (i:=2) (blk_set (i:=1) (blk_set (i:=0) h x0) x1) x2) x3
 unfold rset4
 simpa using h1
theorem cells_alloc {W:World} {R:Nat} {C:Array Value} {t:TypeId} (h:W.heap[R]? = some (.cells C t (0,0))) (o:Obj) (i:Nat):(W.alloc o).cell? ⟨R,i,none⟩=C[i]?:=by
 rw[World.cell?_alloc_lt W o ⟨R,i,none⟩ (Array.getElem?_eq_some_iff.1 h).1]
 exact cell_of_row W R i C t (0,0) h
structure S1 (W0 wr:World) (C B:Nat) (P:Sp.Pg) (Es:List Sp.Ed) (vs:List Int) (c:Sp.Cfg) (step n k:Nat) (vv rr gg ii sv:Value) (a:Sp.Acc):Prop where
 st:Sp.stp P Es c step k = .ok a
 css:CSS wr C B vv rr gg ii sv a.all (a.val++vs.drop k) (a.rst++List.replicate (n - k) false) (List.replicate n 0) (List.replicate n (Sp.noneK P.by')) a.sent
 bel:Below B W0 wr
theorem S1.step {W0 w':World} {C B:Nat} {P:Sp.Pg} {Es:List Sp.Ed} {vs:List Int} {c:Sp.Cfg} {step n k:Nat} {vv rr gg ii sv':Value} {a a':Sp.Acc} (ok:Sp.AccOk n k a) (hk:k < n) (hl:vs.length=n) (hst:Sp.stp P Es c step (k+1) = .ok a') {x:Int} {y:Bool} (hv:a'.val=a.val++[x]) (hr:a'.rst=a.rst++[y])
  (hcss:CSS w' C B vv rr gg ii sv' a'.all ((a.val++vs.drop k).set k x) ((a.rst++List.replicate (n - k) false).set k y) (List.replicate n 0) (List.replicate n (Sp.noneK P.by')) a'.sent) (hb:Below B W0 w'):S1 W0 w' C B P Es vs c step n (k+1) vv rr gg ii sv' a':=by
 refine⟨hst,?_,hb⟩
 have e1:(a.val++vs.drop k).set k x=a'.val++vs.drop (k+1):=by
  have h:=Sp.set_front a.val (vs.drop k) x (by intro e;have:=congrArg List.length e;simp at this;omega)
  rw[ok.lv] at h
  rw[h,hv,List.tail_drop]
 have e2:(a.rst++List.replicate (n - k) false).set k y=a'.rst++List.replicate (n - (k+1)) false:=by
  have h:=Sp.set_front a.rst (List.replicate (n - k) false) y (by intro e;have:=congrArg List.length e;simp at this;omega)
  rw[ok.lr] at h
  rw[h,hr,List.tail_replicate]
  rfl
 rw[e1,e2] at hcss
 exact hcss
structure PCN (w:World) (C B:Nat) (p:Option Addr) (cap n:Nat) (step all:Int) (V:List Int) (R:List Bool) (G I:List Int):Prop where
 c0:w.cell? ⟨C,0,none⟩=some (.int .i64 step)
 c1:w.cell? ⟨C,1,none⟩=some (.slice p n cap)
 c2:w.cell? ⟨C,2,none⟩=some (.int .i64 all)
 fz:∀ j,w.frozen? ⟨C,j,none⟩=false
 o:w.ownsRow B 131 4 (.slice p n cap) n (vxC V R G I n)
 ne:(Value.slice p n cap).ownBlock≠some C
theorem PCN.lt {w:World} {C B cap n:Nat} {p:Option Addr} {step all:Int} {V:List Int} {R:List Bool} {G I:List Int} (h:PCN w C B p cap n step all V R G I):C < w.heap.size:=World.block_lt_of_cell? w _ h.c0
theorem PCN.below {w w':World} {C B cap n:Nat} {p:Option Addr} {step all:Int} {V:List Int} {R:List Bool} {G I:List Int} (h:PCN w C B p cap n step all V R G I) (hb:Below w.heap.size w w'):PCN w' C B p cap n step all V R G I :=
 ⟨(hb.cell (p:=⟨C,0,none⟩) h.lt).trans h.c0,(hb.cell (p:=⟨C,1,none⟩) h.lt).trans h.c1,(hb.cell (p:=⟨C,2,none⟩) h.lt).trans h.c2,fun j=>(hb.frozen (p:=⟨C,j,none⟩) h.lt).trans (h.fz j),obl h.o hb,h.ne⟩
theorem PCN.pcs {w:World} {C B g cap n:Nat} {step all:Int} {V:List Int} {R:List Bool} {G I:List Int} (h:PCN w C B (some ⟨g,0,none⟩) cap n step all V R G I):PCS w C B g cap n step all V R G I :=
 ⟨h.c0,h.c1,h.c2,h.fz,h.o,fun e=>h.ne (by rw[e];rfl)⟩
theorem PCS.pcn {w:World} {C B g cap n:Nat} {step all:Int} {V:List Int} {R:List Bool} {G I:List Int} (h:PCS w C B g cap n step all V R G I):PCN w C B (some ⟨g,0,none⟩) cap n step all V R G I :=
 ⟨h.c0,h.c1,h.c2,h.fz,h.o,fun e=>by have e':some g=some C:=e;injection e' with e';exact h.ne e'⟩
theorem PCN.form {w:World} {C B cap n:Nat} {p:Option Addr} {step all:Int} {V:List Int} {R:List Bool} {G I:List Int} (h:PCN w C B p cap n step all V R G I) (hn:0 < n):∃ g,p=some ⟨g,0,none⟩∧B≤g∧g < w.heap.size:=own_some h.o rfl hn
theorem vxC_congr {V V':List Int} {R R':List Bool} {G G' I I':List Int} {n:Nat} (hv:∀ k,k < n→V.getD k 0=V'.getD k 0) (hr:∀ k,k < n→R.getD k false=R'.getD k false) (hg:∀ k,k < n→G.getD k 0=G'.getD k 0) (hi:∀ k,k < n→I.getD k 0=I'.getD k 0):vxC V R G I n=vxC V' R' G' I' n:=by
 unfold vxC
 apply flat_congr
 intro m hm
 rw[List.mem_range] at hm
 rw[hv m hm,hr m hm,hg m hm,hi m hm]
structure S2 (W0 wr:World) (C B:Nat) (p:Option Addr) (cap n:Nat) (P:Sp.Pg) (Es:List Sp.Ed) (c:Sp.Cfg) (step k:Nat) (a:Sp.Acc):Prop where
 st:Sp.stp P Es c step k = .ok a
 pc:PCN wr C B p cap n ((step:Int)+1) a.all (a.val++c.val.drop k) (a.rst++c.rst.drop k) ((List.range n).map (Sp.gotOf a.sent)) ((List.range n).map (Sp.innOf P a.sent))
 bel:Below B W0 wr
theorem S2.first {W0 w1:World} {n:Nat} {P:Sp.Pg} {Es:List Sp.Ed} {c:Sp.Cfg} {step:Nat} {p:Option Addr} {cap:Nat} (hl:c.val.length=n) (hb:Below W0.heap.size W0 w1) (ho:w1.ownsRow W0.heap.size 131 4 (.slice p n cap) n (vxC c.val c.rst [] (List.replicate n (Sp.noneK P.by')) n)) :
  S2 W0 (w1.alloc (.cells #[.int .i64 ((step:Int)+1),.slice p n cap,.int .i64 (Sp.noneK P.al)] 91)) w1.heap.size W0.heap.size p cap n P Es c step 0 ⟨[],[],Sp.noneK P.al,[]⟩:=by
 have hbk:=heap_alloc_new w1 (.cells #[.int .i64 ((step:Int)+1),.slice p n cap,.int .i64 (Sp.noneK P.al)] 91)
 refine⟨rfl,⟨cell_of_row _ _ 0 _ _ (0,0) hbk,cell_of_row _ _ 1 _ _ (0,0) hbk,cell_of_row _ _ 2 _ _ (0,0) hbk,fun j=>by unfold World.frozen?;rw[hbk];simp,?_,fun e=>by have:=(ho.lt _ e).2;omega⟩,hb.alloc hb.size _⟩
 have h1:=ho.alloc (.cells #[.int .i64 ((step:Int)+1),.slice p n cap,.int .i64 (Sp.noneK P.al)] 91)
 have e1:=vxC_congr (n:=n) (V:=c.val) (R:=c.rst) (G:=[]) (I:=List.replicate n (Sp.noneK P.by')) (V':=[]++c.val.drop 0) (R':=[]++c.rst.drop 0) (G':=(List.range n).map (Sp.gotOf [])) (I':=(List.range n).map (Sp.innOf P [])) (fun k _=>rfl) (fun k _=>rfl) (fun k hk=>by rw[Sp.getD_map_range _ hk];rfl) (fun k hk=>by rw[Sp.getD_map_range _ hk,List.getD_eq_getElem?_getD,List.getElem?_replicate,if_pos hk];rfl)
 rw[e1] at h1
 exact h1
namespace Sp
theorem drop_front {α : Type} (A l:List α) (d : α) {k:Nat} (hA:A.length=k) (hk:k < l.length):A++l.drop k=A++[l.getD k d]++l.drop (k+1):=by
 rw[List.drop_eq_getElem_cons hk,List.getD_eq_getElem?_getD,List.getElem?_eq_getElem hk];simp
theorem set_drop {α : Type} (A l:List α) (x : α) {k:Nat} (hA:A.length=k) (hk:k < l.length):(A++l.drop k).set k x=A++[x]++l.drop (k+1):=by
 have h:=set_front A (l.drop k) x (by intro e;have:=congrArg List.length e;simp at this;omega)
 rw[hA] at h
 rw[h,List.tail_drop]
theorem turn_to {P:Pg} {Es:List Ed} {c:Cfg} {i step:Nat} {t:Tn} (h:turn P Es c i step=some t) (hne:t.sent≠[]):t.sent.map Prod.fst=(outE Es i).map (·.to):=by
 unfold turn turnE at h
 split at h
 ·cases h
 ·split at h
  ·cases h
  ·split at h
   ·cases h
   ·rename_i sent hsent
    have ht:t.sent=sent:=by
     unfold tail34 at h
     split at h
     ·cases h
     ·split at h
      ·cases h
      ·injection h with h;subst h;rfl
    rw[ht] at hne ⊢
    split at hsent
    ·injection hsent with hsent;exact absurd hsent.symm hne
    ·exact msgs_to hsent
end Sp
theorem S2.skip {W0 wr w':World} {C B:Nat} {p:Option Addr} {cap n:Nat} {P:Sp.Pg} {Es:List Sp.Ed} {c:Sp.Cfg} {step k:Nat} {a:Sp.Acc} (h:S2 W0 wr C B p cap n P Es c step k a) (ok:Sp.AccOk n k a) (hc:Sp.CfgOk n c) (hk:k < n) (hw:Sp.awake c k step=false) (hb:Below wr.heap.size wr w') (hB:B≤wr.heap.size):S2 W0 w' C B p cap n P Es c step (k+1) ⟨a.val++[c.val.getD k 0],a.rst++[c.rst.getD k false],a.all,a.sent⟩:=by
 refine⟨Sp.stp_skip h.st hw,?_,h.bel.trans (hb.mono hB)⟩
 have h1:=h.pc.below hb
 rw[Sp.drop_front a.val c.val 0 ok.lv (by rw[hc.lv];exact hk),Sp.drop_front a.rst c.rst false ok.lr (by rw[hc.lr];exact hk)] at h1
 exact h1
theorem S2.turn {W0 w':World} {C B g:Nat} {cap n:Nat} {P:Sp.Pg} {Es:List Sp.Ed} {c:Sp.Cfg} {step k:Nat} {a:Sp.Acc} {t:Sp.Tn} (hst:Sp.stp P Es c step k = .ok a) (ok:Sp.AccOk n k a) (hc:Sp.CfgOk n c) (hk:k < n) (hw:Sp.awake c k step=true) (ht:Sp.turn P Es c k step=some t)
  (h:PCS w' C B g cap n ((step:Int)+1) (Sp.joinK P.al a.all t.give) ((a.val++c.val.drop k).set k t.value) ((a.rst++c.rst.drop k).set k t.rests) ((List.range n).map (Sp.gotOf (a.sent++t.sent))) ((List.range n).map (Sp.innOf P (a.sent++t.sent)))) (hb:Below B W0 w') :
  S2 W0 w' C B (some ⟨g,0,none⟩) cap n P Es c step (k+1) ⟨a.val++[t.value],a.rst++[t.rests],Sp.joinK P.al a.all t.give,a.sent++t.sent⟩:=by
 refine⟨Sp.stp_turn hst hw ht,?_,hb⟩
 have h1:=h.pcn
 rw[Sp.set_drop a.val c.val t.value ok.lv (by rw[hc.lv];exact hk),Sp.set_drop a.rst c.rst t.rests ok.lr (by rw[hc.lr];exact hk)] at h1
 exact h1
def PSPost (o:Except Nat Sp.Acc) (P:Sp.Pg) (n:Nat) (step:Nat) (w:World) (e:Ending) (w':World):Prop :=
 Below w.heap.size w w'∧match o with
  | .ok a=>∃ sl,e = .returned (.tuple #[.agg #[.int .i64 ((step:Int)+1),sl,.int .i64 a.all],.int .i64 0,.bool true])∧w'.ownsRow w.heap.size 131 4 sl n (vxC (Sp.nextC P n a).val (Sp.nextC P n a).rst (Sp.nextC P n a).got (Sp.nextC P n a).inn n)
  | .error i=>e = .returned (.tuple #[.agg #[.int .i64 0,.slice none 0 0,.int .i64 0],.int .i64 i,.bool false])
theorem wp_joinV2 {P:Program} {c:Code} {Q:Exit→Act→World→Prop} {a:Act} {w:World} (R:Value→Value→World→Prop) (h:∃ A:Value→Value→Act,c.wp P (noPanR fun x a' w'=>x = .normal∧∃ u1 u2,a'=A u1 u2∧R u1 u2 w') a w∧∀ u1 u2 w',R u1 u2 w'→Q .normal (A u1 u2) w'):c.wp P Q a w:=by
 obtain⟨A,h1,h2⟩:=h
 refine Code.wp_mono (fun e a w h=>?_) h1
 obtain⟨rfl,u1,u2,rfl,hr⟩:=noPanR_mono _ _ _ h
 exact h2 _ _ _ hr
end Go.Proofs.YteflnddphpjahaaGreatDoor
