import Derived.Test.YteflnddphpjahaaGreatDoorCnPkFtoPkG
import Derived.Lib.AppendStr
set_option linter.unusedVariables false
set_option linter.unusedSimpArgs false
set_option maxRecDepth 100000
set_option maxHeartbeats 16000000
namespace Go.Proofs.YteflnddphpjahaaGreatDoor.Pk
open Go.RowKit Go.Shelf
open Sd (Tb)
open Dk
theorem Tryz.info_u8:(Tryz.prog.info? 5).map (fun i=>(i.zero,i.size,i.bytes))=some (some (.int .u8 0),1,1):=by kernel_rfl
theorem append_str {P:Program} (w:World) (base:Nat) (t u ty e:TypeId) (i:TypeInfo) (ht:P.underlying t=some (.slice e)) (hu:P.underlying u=some .string) (hi:P.info? e=some i) (hz:i.zero=some (.int .u8 0))
  (hsize:i.size=1) (hby:i.bytes=1) (v:Value) (n:Nat) (xs:List Value) (hown:w.ownsRow base e 1 v n xs) (s:ByteArray) (h63:n+s.size≤140737488355328) (hbase:base≤w.heap.size) :
  ∃ p c w',(Builtin.append_ #[t,u] ty #[v,.string s]).run P w = .ok (.slice p (n+s.size) c) w'∧w'.ownsRow base e 1 (.slice p (n+s.size) c) (n+s.size) (xs++Lib.strCells s)∧w.grownBy w' v.ownBlock ∧
   ((Value.slice p (n+s.size) c).ownBlock=v.ownBlock∨(Value.slice p (n+s.size) c).ownBlock=some w.heap.size):=by
 obtain⟨v',w',hr,ho,hg,hnil⟩:=Lib.run_append_own_string (P:=P) w base t u ty e i ht hu hi hz hsize hby v n xs hown s (by unfold maxLen;omega) h63 hbase
 obtain⟨p,c,rfl⟩:=own_sl ho
 refine⟨p,c,w',hr,ho,hg,?_⟩
 have hxl:xs.length=n:=by simpa using hown.1
 rcases hown.2 with ⟨rfl,rfl⟩ | ⟨g,cap,cur,rfl,hbg,hgg,hnc,hcm,hcs,htake⟩
 ·by_cases hm:s.size=0
  ·have:=hnil.2 ⟨rfl,hm⟩
   rw[this];exact Or.inl rfl
  ·have hr2:=run_append_nil_string (P:=P) w t u ty e i (.int .u8 0) ht hu hi hz s (by omega) (by omega) (by rw[hby];omega)
   rw[hr2] at hr
   injection hr with e1 e2
   rw[← e1];exact Or.inr rfl
 ·by_cases hroom:n+s.size≤cap
  ·have hcs':cur.size=cap:=by simpa using hcs
   have hr2:=Lib.run_append_room_string (P:=P) w t u ty e i ht hu hi hsize g n cap cur hgg s hroom (by omega)
   rw[hr2] at hr
   injection hr with e1 e2
   rw[← e1];exact Or.inl rfl
  ·have holds:∀ j u,xs[j]? = some u→w.cell? ((⟨g,0,none⟩:Addr).add j)=some u:=hown.cells (g:=g) rfl
   have hr2:=Lib.run_append_grow_string (P:=P) w t u ty e i (.int .u8 0) ht hu hi hz ⟨g,0,none⟩ n cap xs (by rw[hsize];simpa using hxl) holds s (by omega) (by omega) (by rw[hby];exact growslice_fits (by omega) (by omega))
   rw[hr2] at hr
   injection hr with e1 e2
   rw[← e1];exact Or.inr rfl
theorem byteCells_app (a b:ByteArray):byteCells (a++b)=byteCells a++Lib.strCells b:=by
 unfold byteCells Lib.strCells
 rw[ByteArray.data_append,Array.toList_append,List.map_append]
def Dv.apE (d:Dv) (y t:ByteArray):Int:=if d.onE y=0 then (if d.q < (used d.F d.names:Int)+t.size then 12 else 0) else d.onE y
def Dv.apD (d:Dv) (y t:ByteArray) (d':Dv):Prop:=if d.apE y t=0 then ∃ f v',Sd.tget d.names y=some f∧d'=d.cnt.setF f ⟨(d.F f).bytes++t,(d.F f).safe⟩ v' else d'=d.cnt
theorem append_any (D:Nat) (d:Dv) (y t:ByteArray) (w:World) (h:DAt w D d) (hl:d.names.length≤100000)
  (hu:∀ p ∈ d.names,(d.F p.2).bytes.size≤1099511627776) (ht:t.size≤1099511627776) :
  Calls Tryz.prog 228 #[.pointer (some ⟨D,0,none⟩),.string y,.string t] w (OpPost w D d (d.apE y t) (d.apD y t)):=by
 obtain⟨i0,hi,hz0,hz1,hz2⟩:=info_parts Tryz.info_u8
 have hon:=operatesOn_any D d y w h hl
 obtain⟨en,_,ec,ef,eF,eq⟩:=cnt_same d
 by_cases h0:d.onE y=0
 ·obtain⟨f,hf,hof⟩:=onE_zero h.sn h0
  have hE:d.apE y t=if d.q < (used d.F d.names:Int)+t.size then 12 else 0:=by unfold Dv.apE;rw[if_pos h0]
  have HM:=hde (h.inN (y,f) ((Sd.tget_mem h.sn).1 hf))
  have hfs:(d.F f).bytes.size≤1099511627776:=hu (y,f) ((Sd.tget_mem h.sn).1 hf)
  have hul:used d.F d.names≤109951162777600000:=by
   have h1:=used_le d.F d.names.attach hu
   rw[List.attach_map_subtype_val,List.length_attach] at h1
   exact Nat.le_trans h1 (Nat.le_trans (Nat.mul_le_mul_right 1099511627776 hl) (by decide))
  have hua:=fun W (hW:DAt W D d.cnt)=>used_any D d.cnt W hW (by rw[en];exact hl) (by rw[en,eF];exact hu)
  rw[en,eF] at hua
  rw[hof,h0] at hon
  unfold optPtr fptr at hon
  obtain⟨U,hU⟩:∃ U,used d.F d.names=U:=⟨_,rfl⟩
  rw[hU] at hE hul hua
  obtain⟨q,hq0⟩:∃ q,d.q=q:=⟨_,rfl⟩
  rw[hq0] at hE
  have HF:=hde hf
  have HC:=hde (And.intro ef (And.intro eF (eq.trans hq0)))
  clear h h0 hf hof hU en ec ef eF eq hq0 hu
  by_cases hfull:q < (U:Int)+(t.size:Int)
  ·rw[if_pos hfull] at hE
   have HD:Hid (d.apD y t d.cnt):=by show Dv.apD _ _ _ _;unfold Dv.apD;rw[if_neg (by rw[hE];decide)]
   rw[hE]
   have hgt:decide (IntKind.i64.wrap ((U:Int)+(t.size:Int)) > q)=true:=decide_eq_true (by rw[IntKind.wrap_i64];omega)
   have hgt2:q < IntKind.i64.wrap ((U:Int)+(t.size:Int)):=by rw[IntKind.wrap_i64];omega
   clear hE hfull
   go_enter Tryz.func228,Tryz.ntmps228
   go_wp2_with fail
   refine hon.mono ?_
   rintro e w1 ⟨rfl,h1⟩
   have hd1:=h1.at'
   have hdb:=hd1.blk
   have hDw1:D < w1.heap.size:=blk_lt hdb
   have q0:w1.cell? ⟨D,0,none⟩=some (.int .i64 q):=by rw[hd1.cell.1,(uh HC).2.2]
   have H1:=hde h1
   have HUA:=hde hua
   clear hon h1 hd1 hdb hua
   go_wp2_with fail
   go_region_with (go_at_call 154;refine((uh HUA) _ (by first | exact(uh H1).at' | exact(uh H1).at'.below (Below.refl _ _).drew)).mono ?_;rintro e w2 ⟨rfl,hb2⟩;have q2:w2.cell? ⟨D,0,none⟩=some (.int .i64 q):=(hb2.cell (p:=⟨D,0,none⟩) (by first | exact hDw1 | simpa using hDw1)).trans q0)
   all_goals
    have hb12:Below w1.heap.size w1 w2:=(Below.refl _ w1).drew.trans (hb2.mono (by simp))
    have HB:=hde hb12
    clear hb2 hb12
    go_wp2
    go_ret
    exact⟨rfl,_,uh HD,(uh H1).trans (DTo.below (uh H1).at' (uh HB))⟩
  ·rw[if_neg hfull] at hE
   have HD:Hid (∀ v',d.apD y t (d.cnt.setF f ⟨(d.F f).bytes++t,(d.F f).safe⟩ v')):=fun v'=>by unfold Dv.apD;rw[if_pos hE];exact⟨f,v',uh HF,rfl⟩
   rw[hE]
   have hq':(U:Int)+(t.size:Int)≤q:=by omega
   have hq'':IntKind.i64.wrap ((U:Int)+(t.size:Int))≤q:=by rw[IntKind.wrap_i64];omega
   clear hE hfull
   go_enter Tryz.func228,Tryz.ntmps228
   go_wp2_with fail
   refine hon.mono ?_
   rintro e w1 ⟨rfl,h1⟩
   have hd1:=h1.at'
   have hdb:=hd1.blk
   have hDw1:D < w1.heap.size:=blk_lt hdb
   have q0:w1.cell? ⟨D,0,none⟩=some (.int .i64 q):=by rw[hd1.cell.1,(uh HC).2.2]
   have H1:=hde h1
   have HUA:=hde hua
   clear hon h1 hd1 hdb hua
   go_wp2_with fail
   go_region_with (go_at_call 154;refine((uh HUA) _ (by first | exact(uh H1).at' | exact(uh H1).at'.below (Below.refl _ _).drew)).mono ?_;rintro e w2 ⟨rfl,hb2⟩;have q2:w2.cell? ⟨D,0,none⟩=some (.int .i64 q):=(hb2.cell (p:=⟨D,0,none⟩) (by first | exact hDw1 | simpa using hDw1)).trans q0)
   all_goals
    have hb12:Below w1.heap.size w1 w2:=(Below.refl _ w1).drew.trans (hb2.mono (by simp))
    have hd2:=(uh H1).at'.below hb12
    have hmf:f ∈ d.cnt.fs:=by rw[(uh HC).1];exact uh HM
    have hff:=hd2.files f hmf
    rw[(uh HC).2.1] at hff
    obtain⟨pb,cb,hvb⟩:=own_sl hff.row
    have hfb:=hff.blk
    rw[hvb] at hfb
    have hrow:=hff.row
    rw[hvb] at hrow
    have k0:w2.cell? ⟨f,0,none⟩=some (.slice pb (d.F f).bytes.size cb):=by rw[cell_of_row w2 _ 0 _ _ _ hfb];rfl
    have kf:w2.frozen? ⟨f,0,none⟩=false:=by simp[World.frozen?,hfb]
    have hfw:f < w2.heap.size:=blk_lt hfb
    obtain⟨p3,c3,w3,hr,ho3,hg3,hn3⟩:=append_str (P:=Tryz.prog) w2 0 75 9 75 5 i0 Tryz.underlying75 Tryz.underlying9 hi hz0 hz1 hz2 (.slice pb (d.F f).bytes.size cb) _ _ hrow t (by omega) (Nat.zero_le _)
    have hnf:some f≠(Value.slice pb (d.F f).bytes.size cb).ownBlock:=fun e=>by
     obtain⟨c',hc',_⟩:=own_blk hrow e.symm
     exact blk_ne hc' hfb (by decide) rfl
    have hfb3:w3.heap[f]? = some (.cells #[.slice pb (d.F f).bytes.size cb,.int .i64 (d.F f).safe] 364 (0,0)):=(hg3.block f hfw hnf).trans hfb
    have k3:w3.cell? ⟨f,0,none⟩=some (.slice pb (d.F f).bytes.size cb):=by rw[cell_of_row w3 _ 0 _ _ _ hfb3];rfl
    have kf3:w3.frozen? ⟨f,0,none⟩=false:=by simp[World.frozen?,hfb3]
    have H:=hde (And.intro hb12 (And.intro hvb (And.intro ho3 (And.intro hg3 (And.intro hn3 (And.intro hfb3 hmf))))))
    clear hb12 hvb ho3 hg3 hn3 hfb3 hd2 hff hfb hrow hb2 hmf
    go_wp2_with (first
     | (at_builtin;go_must (refine Lib.wpList_append_run _ rfl (.tmp 32) (.tmp 33) _ _ rfl _ _ rfl rfl _ _ hr ?_))
     | go_in)
    go_ret
    obtain⟨hb12,hvb,ho3,hg3,hn3,hfb3,hmf⟩:=uh H
    have hd2:=(uh H1).at'.below hb12
    have hff:=hd2.files f hmf
    have hkw:Kept w2 (w3.setCell ⟨f,0,none⟩ (.slice p3 ((d.F f).bytes.size+t.size) c3)) (fun k=>k≠f∧(d.cnt.vb f).ownBlock≠some k):=
     (Kept.grown hg3 (fun k hk=>by rw[← hvb];exact hk.2)).setCell (fun hk=>hk.1 rfl) _
    have hx:FAt (w3.setCell ⟨f,0,none⟩ (.slice p3 ((d.F f).bytes.size+t.size) c3)) f ⟨(d.F f).bytes++t,(d.F f).safe⟩ (.slice p3 ((d.F f).bytes.size+t.size) c3):=by
     refine⟨by rw[heap_setCell_same w3 f 0 _ _ _ hfb3];rfl,?_⟩
     show World.ownsRow _ 0 5 1 _ ((d.F f).bytes++t).size (byteCells ((d.F f).bytes++t))
     rw[byteCells_app,ByteArray.size_append]
     refine ownsRow_setCell_other ho3 (fun e=>?_) _
     obtain⟨c',hc',_⟩:=own_blk ho3 e
     exact blk_ne hc' hfb3 (by decide) rfl
    have r:=disk_file hd2 hmf hkw hx (by
     rcases hn3 with e | e
     ·rw[hvb];exact Or.inl e
     ·exact Or.inr ⟨_,e,Nat.le_refl _⟩)
    exact⟨rfl,_,(uh HD) _,(uh H1).trans ((DTo.below (uh H1).at' hb12).trans r)⟩
 ·have hE:d.apE y t=d.onE y:=by unfold Dv.apE;rw[if_neg h0]
  have HD:Hid (d.apD y t d.cnt):=by show Dv.apD _ _ _ _;unfold Dv.apD;rw[hE,if_neg h0]
  obtain⟨n,hn⟩:∃ n,d.onE y=n:=⟨_,rfl⟩
  have hn0:(n == 0)=false:=beq_eq_false_iff_ne.2 (hn ▸ h0)
  rw[hE]
  rw[hn] at hon ⊢
  obtain⟨p,hp⟩:∃ p,optPtr (d.onF y) = .pointer p:=by cases d.onF y <;> exact⟨_,rfl⟩
  rw[hp] at hon
  clear h h0 hp hn hE
  go_enter Tryz.func228,Tryz.ntmps228
  go_wp2_with fail
  refine hon.mono ?_
  rintro e w1 ⟨rfl,h1⟩
  have H1:=hde h1
  clear hon h1
  go_wp2
  go_ret
  exact⟨rfl,_,uh HD,uh H1⟩
attribute [local go_sem] Oper.semAt_some
theorem toStr (w:World) (g n cap:Nat) (t:ByteArray) (hn:t.size=n) (h:∀ j,j < t.size→w.cell? ⟨g,j,none⟩=some (.int .u8 (Sp.bt t j))):(convert 75 9 (.slice (some ⟨g,0,none⟩) n cap)).run Tryz.prog w = .ok (.string t) w:=by
 subst hn
 have h1:=run_convert_bytes_arg (P:=Tryz.prog) w 75 5 Tryz.underlying75 Tryz.underlying5 g 0 t.size cap (t.data.toList.map (fun b=>(b.toNat:Int))) (by rw[List.length_map,Array.length_toList];rfl) (fun i hi=>by
  rw[Nat.zero_add,h i hi,← Sp.bt_of t i hi,List.getD_eq_getElem?_getD,List.getElem?_map,List.getElem?_eq_getElem (by rw[Array.length_toList];exact hi)]
  rfl) 9 Tryz.underlying9
 rw[h1]
 have e:strOfNums (t.data.toList.map (fun b=>(b.toNat:Int)))=t:=by
  apply ByteArray.ext
  apply Array.toList_inj.1
  rw[strOfNums_data,List.map_map]
  rw[show ((fun n:Int=>UInt8.ofNat n.toNat) ∘ fun b:UInt8=>(b.toNat:Int))=id from by funext b;simp]
  simp
 rw[e]
theorem conv_row {w:World} {B:Nat} {v:Value} {b:ByteArray} (h:w.ownsRow B 5 1 v b.size (byteCells b)):(convert 75 9 v).run Tryz.prog w = .ok (.string b) w:=by
 rcases h.2 with ⟨rfl,h0⟩ | ⟨g,cap,cur,rfl,_,hg,hn,_,hcs,htk⟩
 ·have e:b=ByteArray.empty:=by
   apply ByteArray.ext
   exact Array.eq_empty_of_size_eq_zero h0
  rw[e]
  exact run_convert_bytes_nil w 75 5 Tryz.underlying75 Tryz.underlying5 0 0 9 Tryz.underlying9
 ·refine toStr w g b.size cap b rfl (fun j hj=>?_)
  have hx:=h.cellAt j (by omega)
  rw[hx]
  unfold byteCells
  rw[List.getElem?_map,List.getElem?_eq_getElem (by rw[Array.length_toList];exact hj),← Sp.bt_of b j hj]
  rfl
def Dv.rd (d:Dv) (y:ByteArray):ByteArray:=if d.down=true then ⟨#[]⟩ else match Sd.tget d.names y with
 | some f=>(d.F f).bytes
 | none=>⟨#[]⟩
def Dv.rdE (d:Dv) (y:ByteArray):Int:=if d.down=true then 9 else match Sd.tget d.names y with
 | some _=>0
 | none=>11
theorem read_any (D:Nat) (d:Dv) (y:ByteArray) (w:World) (h:DAt w D d) (hl:d.names.length≤100000) :
  Calls Tryz.prog 152 #[.pointer (some ⟨D,0,none⟩),.string y] w fun e w'=>e = .returned (.tuple #[.string (d.rd y),.int .i64 (d.rdE y)])∧Below w.heap.size w w':=by
 have HD:=hde h
 obtain⟨_,_,_,_,_,_,c6⟩:=h.cell
 cases hdn:d.down with
 | true =>
  have e1:d.rd y=⟨#[]⟩:=by unfold Dv.rd;rw[if_pos hdn]
  have e2:d.rdE y=9:=by unfold Dv.rdE;rw[if_pos hdn]
  rw[hdn] at c6
  rw[e1,e2]
  clear h e1 e2 hdn
  go_enter Tryz.func152,Tryz.ntmps152
  go_wp2
  go_ret2
  exact⟨rfl,Below.refl _ _⟩
 | false =>
  rw[hdn] at c6
  have hget:=get_any D 1 _ _ d.vn d.names y w (h.tabN hl)
  cases hf:Sd.tget d.names y with
  | none =>
   have hh:Sd.thas d.names y=false:=by
    cases hq:Sd.thas d.names y with
    | false=>rfl
    | true=>obtain⟨_,_,e2⟩:=Sd.tget_at h.sn hq;rw[hf] at e2;cases e2
   have e1:d.rd y=⟨#[]⟩:=by unfold Dv.rd;rw[if_neg (by rw[hdn];decide),hf]
   have e2:d.rdE y=11:=by unfold Dv.rdE;rw[if_neg (by rw[hdn];decide),hf]
   rw[hh,hf] at hget
   unfold optPtr at hget
   rw[e1,e2]
   clear h hl hh hf e1 e2 hdn
   go_enter Tryz.func152,Tryz.ntmps152
   go_wp2_with fail
   refine hget.mono ?_
   rintro e w1 ⟨rfl,hb⟩
   go_wp2
   go_ret2
   exact⟨rfl,hb⟩
  | some f =>
   have hmem:=(Sd.tget_mem h.sn).1 hf
   have hh:Sd.thas d.names y=true:=Sd.thas_mem.2 ⟨f,hmem⟩
   have HH:=hde (h.inN (y,f) hmem)
   have e1:d.rd y=(d.F f).bytes:=by unfold Dv.rd;rw[if_neg (by rw[hdn];decide),hf]
   have e2:d.rdE y=0:=by unfold Dv.rdE;rw[if_neg (by rw[hdn];decide),hf]
   rw[hh,hf] at hget
   unfold optPtr fptr at hget
   rw[e1,e2]
   clear h hl hh hf e1 e2 hmem hdn
   go_enter Tryz.func152,Tryz.ntmps152
   go_wp2_with fail
   refine hget.mono ?_
   rintro e w1 ⟨rfl,hb⟩
   have hff:=((uh HD).below hb).files f (uh HH)
   have hfb:=hff.blk
   have hrow:=hff.row
   obtain⟨pb,cb,hvb⟩:=own_sl hrow
   rw[hvb] at hfb hrow
   have k0:w1.cell? ⟨f,0,none⟩=some (.slice pb (d.F f).bytes.size cb):=by rw[cell_of_row w1 _ 0 _ _ _ hfb];rfl
   have hcv:=conv_row hrow
   clear hff hfb hrow hvb hget
   go_wp2
   go_ret2
   exact⟨rfl,hb⟩
theorem Tryz.info_pstr:(Tryz.prog.info? 9).map (fun i=>(i.zero,i.size,i.bytes))=some (some (.string ⟨#[]⟩),1,16):=by kernel_rfl
theorem cells_stay {B:Nat} {W W':World} {row:Option Nat} (hg:W.grownBy W' row) (hr:∀ r,row=some r→B≤r∧∃ o:Obj,W.heap[r]? = some o∧o.isCells=false) {k:Nat} {c:Array Value} {t:TypeId} {p:Nat × Nat} (hk:W.heap[k]? = some (.cells c t p)):W'.heap[k]? = some (.cells c t p):=by
 have hl:k < W.heap.size:=(Array.getElem?_eq_some_iff.1 hk).1
 rw[hg.block k hl (fun e=>by
  obtain⟨_,o,ho,hc⟩:=hr k e.symm
  rw[hk] at ho
  have:Obj.cells c t p=o:=Option.some.inj ho
  rw[← this] at hc;cases hc),hk]
theorem own_stay {B:Nat} {W W':World} {row:Option Nat} (hg:W.grownBy W' row) (hr:∀ r,row=some r→B≤r∧∃ o:Obj,W.heap[r]? = some o∧o.isCells=false) {b e size n:Nat} {v:Value} {xs:List Value} (h:W.ownsRow b e size v n xs):W'.ownsRow b e size v n xs:=by
 obtain⟨h1,h2⟩:=h
 refine⟨h1,?_⟩
 rcases h2 with h2 | ⟨g,cap,cur,hv,hB,hgg,r⟩
 ·exact .inl h2
 ·exact .inr ⟨g,cap,cur,hv,hB,cells_stay hg hr hgg,r⟩
def ListBox (G:Nat) (L:List ByteArray) (W:World):Prop := ∃ v,W.heap[G]? = some (.cells #[v] 69 (0,0))∧W.ownsRow (G+1) 9 1 v L.length (L.map Value.string)
theorem list_any (D:Nat) (d:Dv) (w:World) (h:DAt w D d) (hl:d.names.length≤100000) (hdn:d.down=false) :
  Calls Tryz.prog 151 #[.pointer (some ⟨D,0,none⟩)] w fun e w'=>∃ v,e = .returned (.tuple #[v,.int .i64 0])∧w'.ownsRow w.heap.size 9 1 v d.names.length (d.names.map (fun p=>Value.string p.1))∧Below w.heap.size w w':=by
 refine(callsIn_wide (n:=5)).1 ?_
 refine callsIn_of_wp_marks Tryz.func151 rfl trivial ?_ rfl
 have c6:w.cell? ⟨D,6,none⟩=some (.bool false):=by rw[← hdn];exact h.cell.2.2.2.2.2.2
 simp only[Tryz.ntmps151,List.size_toArray,List.length_cons,List.length_nil,Nat.reduceAdd,Nat.reduceSub,Array.replicate_succ,Array.replicate_zero,List.push_toArray,List.append_toArray,List.nil_append,List.cons_append]
 obtain⟨p,cap,hvn,hents⟩:=ents_of_own (h.rn)
 have HD:=hde h
 have hDw:D < w.heap.size:=blk_lt h.blk
 gi_wp2_with (refine⟨trivial,?_⟩;gi_at_call 234;refine(all_in _ _ trivial rfl _ _).mono ?_;rintro e w' ⟨rfl,rfl⟩)
 obtain⟨i0,hi,hz0,hz1,hz2⟩:=info_parts Tryz.info_pstr
 obtain⟨W0,hW0⟩:∃ W0,((w.alloc (.cells #[.slice none 0 0] 69)).alloc (.cells #[.pointer (some ⟨D,1,none⟩)] 393))=W0:=⟨_,rfl⟩
 have hsz:W0.heap.size=w.heap.size+2:=by rw[← hW0];simp
 have hB0:Below w.heap.size w W0:=by rw[← hW0];exact((Below.refl _ w).alloc nlr _).alloc (by simp) _
 have hU0:W0.heap[w.heap.size]? = some (.cells #[.slice none 0 0] 69 (0,0)):=by
  rw[← hW0,Below.heap_alloc _ _ _ (by simp)];exact World.alloc_heap_new w _
 have hP0:W0.cell? ⟨w.heap.size+1,0,none⟩=some (.pointer (some ⟨D,1,none⟩)):=by
  have:=World.alloc_heap_new (w.alloc (.cells #[.slice none 0 0] 69)) (.cells #[.pointer (some ⟨D,1,none⟩)] 393)
  rw[World.size_alloc,hW0] at this
  simp[World.cell?,this]
 have hT0:W0.cell? ⟨D,1,none⟩=some (.slice p d.names.length cap):=by
  rw[hB0.cell (p:=⟨D,1,none⟩) hDw,cell_of_row w D 1 _ _ _ h.blk,← hvn];rfl
 have hC0:∀ j (hj:j < d.names.length),∃ g,p=some ⟨g,0,none⟩∧g < w.heap.size∧True∧W0.cell? ⟨g,j * 2,none⟩=some (.string d.names[j].1)∧W0.cell? ⟨g,j * 2+1,none⟩=some (fptr d.names[j].2):=fun j hj=>by
  obtain⟨g,e,c0,c1⟩:=hents j hj
  have hg:=World.block_lt_of_cell? w _ c0
  exact⟨g,e,hg,trivial,(hB0.cell (p:=⟨g,j * 2,none⟩) hg).trans c0,(hB0.cell (p:=⟨g,j * 2+1,none⟩) hg).trans c1⟩
 rw[hW0]
 clear hW0 hents hvn h
 refine wpIn_rangeFunc_ownG rfl (by omega) (gf:=291) (lb := #[.pointer (some ⟨w.heap.size+1,0,none⟩)]) rfl trivial (enters_of Tryz.func291 (by kernel_rfl) rfl)
  (all_stops _ _ trivial rfl (by omega) (w.heap.size+1) D 1 w.heap.size (fun _=>True) p cap d.names hl W0 (by omega) (by omega) (by omega) hP0 hT0 hC0) (fun h k=>h.trans k) (keptN_bk (by omega)) (Below.refl _ _) (fun _=>rfl)
  (fun pre W=>ListBox w.heap.size (pre.map (·.1.1)) W∧Below w.heap.size W0 W)
  (fun _ _ _=>False)
  (OwnFrom.and (fun pre W W' row hI hg hr=>by obtain⟨v,h1,h2⟩:=hI;exact⟨v,cells_stay hg hr h1,own_stay hg hr h2⟩) (ownFrom_below (by omega) (by omega)))
  (fun _ _ _ _ _ hs _ _=>hs)
  ⟨⟨_,hU0,World.ownsRow_nil _ _ _ _⟩,Below.refl _ _⟩
  (fun y=>{ tmps := #[.pointer (some ⟨D,0,none⟩),undef,.slice none 0 0,.int .i64 0,.pointer (some ⟨w.heap.size,0,none⟩),.string y.1.1,.pointer (some ⟨D,0,none⟩),.pointer (some ⟨D,0,none⟩),.pointer (some ⟨D,6,none⟩),.bool false,.pointer (some ⟨D,0,none⟩),.pointer (some ⟨D,0,none⟩),.pointer (some ⟨D,1,none⟩),.func (.func 291) #[] #[.pointer (some ⟨w.heap.size+1,0,none⟩)],.string y.1.1,fptr y.1.2,undef,undef,undef,undef,undef],defers:=[] }) ?assign ?body ?done ?stop
 case assign =>
  intro l y W K hK
  gi_wp2
  exact hK
 case body =>
  rintro l' pre ⟨⟨ya,yf⟩,hy⟩ W ⟨⟨v,hUW,hrow⟩,hBW⟩ hlt
  rw[List.length_map] at hrow
  obtain⟨pv,kv,rfl⟩:=own_sl hrow
  have u0:W.cell? ⟨w.heap.size,0,none⟩=some (.slice pv pre.length kv):=by rw[cell_of_row W _ 0 _ _ _ hUW];rfl
  have hwl:w.heap.size < W.heap.size:=blk_lt hUW
  have hnb:some w.heap.size≠(Value.slice pv pre.length kv).ownBlock:=fun e=>by have:=(hrow.lt _ e.symm).1;omega
  unfold fptr
  gi_wp2_with (gi_at_builtin;go_loud (refine wpListIn_append_own _ rfl _ _ 69 rfl (w.heap.size+1) 9 i0 (.string ⟨#[]⟩) 1 16 Tryz.underlying69 hi hz0 hz1 hz2 rfl (by decide) (.slice pv pre.length kv) _ _ rfl (hrow.alloc _) ⟨W.heap.size,0,none⟩ 1 1 [.string ya] rfl rfl (cell_one_new _ _ _) (by simp[Value.oneCell']) (by unfold maxLen;omega) (by omega) (Nat.le_trans (show w.heap.size+1≤W.heap.size by omega) (by simp)) ?_;intro v' w1 hown1 hgrow1 _;obtain⟨g1,cap1,rfl⟩:=ownsRow_succ hown1;have hbx:w1.heap[w.heap.size]? = some (.cells #[.slice pv pre.length kv] 69 (0,0)):=(hgrow1.block w.heap.size (Nat.lt_trans hwl (by simp)) hnb).trans ((Below.heap_alloc W _ _ hwl).trans hUW);have q0:w1.cell? ⟨w.heap.size,0,none⟩=some (.slice pv pre.length kv):=(cell_of_row w1 _ 0 _ _ _ hbx).trans rfl;have qf:w1.frozen? ⟨w.heap.size,0,none⟩=false:=by(simp[World.frozen?,hbx])))
  have hko:KeepsOthers W (w1.setCell ⟨w.heap.size,0,none⟩ (.slice (some ⟨g1,0,none⟩) (pre.length+1) cap1)):=by
   refine((KeepsOthers.alloc W _).trans (KeepsOthers.of_grownBy hgrow1 fun j o' ej hj=>?_)).trans (KeepsOthers.setCell _ _ _)
   obtain⟨cur,hc,_⟩:=own_blk (hrow.alloc _) ej
   rw[hc] at hj;cases hj;rfl
  have hbb:Below w.heap.size W (w1.setCell ⟨w.heap.size,0,none⟩ (.slice (some ⟨g1,0,none⟩) (pre.length+1) cap1)):=
   (((Below.refl w.heap.size W).alloc (by omega) _).grown hgrow1 (by simp;omega) (fun k hk=>by have:=(hrow.lt k hk).1;omega)).setCell (p:=⟨w.heap.size,0,none⟩) nlr _
  have hbl:=heap_setCell_same w1 w.heap.size 0 _ _ (.slice (some ⟨g1,0,none⟩) (pre.length+1) cap1) hbx
  exact⟨hko.from _,⟨hbb.os,hbb.tape,hbb.output,hbb.size,fun k hk _=>hbb.block k hk⟩,⟨.slice (some ⟨g1,0,none⟩) (pre.length+1) cap1,hbl,by rw[List.length_map,List.length_append,List.map_append,List.map_append];exact ownsRow_setCell_below hown1 (show w.heap.size < w.heap.size+1 by omega) _⟩,hBW.trans hbb⟩
 case done =>
  rintro Dd ys W hDd hys ⟨⟨v,hUW,hrow⟩,hBW⟩ hK
  have hyl:ys.length=d.names.length:=by rw[hys,List.length_attach]
  have hym:(ys.map (·.1.1)).map Value.string=d.names.map (fun p=>Value.string p.1):=by
   have e:=congrArg (List.map (fun p:ByteArray × Nat=>Value.string p.1)) (List.attach_map_subtype_val d.names)
   rw[List.map_map] at e
   rw[hys,List.map_map]
   exact e
  rw[List.length_map,hyl,hym] at hrow
  obtain⟨pv,kv,rfl⟩:=own_sl hrow
  have HRW:=hde hrow
  have u0:W.cell? ⟨w.heap.size,0,none⟩=some (.slice pv d.names.length kv):=by rw[cell_of_row W _ 0 _ _ _ hUW];rfl
  have hB1:=hB0.trans hBW
  clear hys hUW hyl hrow hym
  gi_wp2
  refine⟨by simp,.inl ⟨_,_,rfl,run_takeDeferred hK,?_⟩⟩
  refine⟨.tuple #[.slice pv d.names.length kv,.int .i64 0],by simp[results,Tryz.results151,go_sem],_,rfl,?_,?_⟩
  ·exact own_le (own_stay (B:=0) (grownBy_putObj' W Dd _) (fun r hr=>by cases hr;exact⟨Nat.zero_le _,_,hK,rfl⟩) (uh HRW)) (Nat.le_succ _)
  ·exact hB1.grown (grownBy_putObj' W Dd _) hB1.size (fun k hk=>by cases hk;omega)
 case stop =>
  intro D' c pre W _ _ h
  exact h.elim
theorem list_down (D:Nat) (d:Dv) (w:World) (h:DAt w D d) (hdn:d.down=true) :
  Calls Tryz.prog 151 #[.pointer (some ⟨D,0,none⟩)] w fun e w'=>e = .returned (.tuple #[.slice none 0 0,.int .i64 9])∧Below w.heap.size w w':=by
 have c6:w.cell? ⟨D,6,none⟩=some (.bool true):=by rw[← hdn];exact h.cell.2.2.2.2.2.2
 clear h hdn
 go_enter Tryz.func151,Tryz.ntmps151
 go_wp2
 go_ret2
 exact⟨rfl,Below.refl _ _⟩
end Go.Proofs.YteflnddphpjahaaGreatDoor.Pk
