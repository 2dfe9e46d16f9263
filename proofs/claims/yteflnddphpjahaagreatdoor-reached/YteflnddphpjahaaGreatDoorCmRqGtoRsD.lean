import Derived.Test.YteflnddphpjahaaGreatDoorCmRfCtoRfG
import Derived.Test.YteflnddphpjahaaGreatDoorCmRqK
import Derived.Test.YteflnddphpjahaaGreatDoorCmRsCtoRnQ
import Derived.Test.YteflnddphpjahaaGreatDoorCmRxBtoCqT
import Derived.Test.YteflnddphpjahaaGreatDoorCmRqFtoRqJ
set_option linter.unusedVariables false
set_option linter.unusedSimpArgs false
set_option maxRecDepth 100000
set_option maxHeartbeats 16000000
namespace Go.Proofs.YteflnddphpjahaaGreatDoor
open Go.RowKit
theorem pebv (pn:Option Addr) (n kn:Nat) (pv:Option Addr) (kv:Nat) (pe:Option Addr) (ke:Nat) (Es:List Sp.Ed) (w:World) (he:EdgesAt w pe Es) (hn:n≤64) (hm:Es.length≤256) (hok:∀ x ∈ Es,x.frm < n) :
  Calls Tryz.prog 37 #[.agg #[.slice pn n kn,.slice pv n kv,.slice pe Es.length ke]] w (EbPost n Es w):=by
 obtain⟨t2,ht2,hva,hvb,hvc⟩:=info_parts Tryz.info_edge
 obtain⟨t3,ht3,hua,hub,huc⟩:=info_parts Tryz.info_edges
 generalize hO:EbPost n Es w=O
 replace hO:=hde hO
 have HE:=hde he
 have HOK:=hde hok
 obtain⟨m,HM⟩:∃ m,Hid (Es.length=m):=⟨_,rfl⟩
 rw[uh HM] at hm
 rw[uh HM]
 have hb0:Below w.heap.size w (w.alloc (.cells #[.slice pn n kn,.slice pv n kv,.slice pe m ke] 79)):=(Below.refl _ _).alloc nlr _
 have hbk:=heap_alloc_new w (.cells #[.slice pn n kn,.slice pv n kv,.slice pe m ke] 79)
 have hz0:=World.size_alloc w (.cells #[.slice pn n kn,.slice pv n kv,.slice pe m ke] 79)
 clear he hok
 go_enter Tryz.func37,Tryz.ntmps37
 go_wp2_with (first | ((refine wpList_make_full _ rfl (.tmp 8) (.tmp 8) 84 rfl (w.heap.size+1) 63 t3 _ 1 Tryz.underlying84 ht3 hua hub .i64 .i64 _ _ n rfl rfl rfl rfl (by rw[huc];omega) (by unfold maxLen;omega) (by first | exact Nat.le_refl _ | omega | exact Nat.le_of_eq hz0.symm) ?_;intro W1 hrow hgr;have gc2:W1.cell? ⟨w.heap.size,2,none⟩=some (.slice pe m ke):=(hgr.cell_far ⟨w.heap.size,2,none⟩ (by simp) (by simp)).trans (cell_of_row _ _ 2 _ _ (0,0) hbk))) | go_in)
 rw[hz0] at hrow
 have hb1:Below w.heap.size w W1:=hb0.grown hgr hb0.size (fun q hq=>by cases hq)
 have hz1:w.heap.size+1≤W1.heap.size:=by have:=hgr.size;omega
 have HE0:Hid (EbV W1 (w.heap.size+1) (w.heap.size+1) n (fun _=>.slice none 0 0) (Es.take 0)):=by
  rw[List.take_zero]
  refine EbV.new ?_
  rw[Nat.mul_one] at hrow
  rw[← toList_madeCells_one]
  exact hrow
 clear hrow hgr gc2 hb0 hbk hz0
 go_loopw [13] (fun i wr=>∃ (k:Nat) (f:Nat→Value),k≤m∧i = .int .i64 k∧Hid (EbV wr (w.heap.size+1) (w.heap.size+1) n f (Es.take k))∧Below (w.heap.size+1) W1 wr) (fun i _=>m - (intOf i).toNat)
 case atStart=>exact⟨0,_,Nat.zero_le _,rfl,HE0,Below.refl _ _⟩
 case round =>
  clear HE0
  obtain⟨k,f,hk,rfl,HV,hb⟩:=hrel
  have hbw:Below w.heap.size w wr:=hb1.trans (hb.mono (by omega))
  have hzr:=hb.size
  by_cases hlt:k < m
  ·have hltz:(k:Int) < (m:Int):=by omega
   have g0:(0:Int)≤(k:Int):=Int.natCast_nonneg _
   have hke:k < Es.length:=by rw[uh HM];exact hlt
   obtain⟨g,rfl,hg,d0,d1,d2⟩:=((uh HE).below hbw) k hke
   obtain⟨x,hx⟩:∃ x,Es[k]=x:=⟨_,rfl⟩
   have hxn:x.frm < n:=by rw[← hx];exact uh HOK _ (List.getElem_mem hke)
   rw[hx] at d0 d1 d2
   have HTK:Hid (Es.take (k+1)=Es.take k++[x]):=by show _=_;rw[List.take_succ_eq_append_getElem hke,hx]
   clear hx
   have hxz:(x.frm:Int) < (n:Int):=by omega
   have hx0:(0:Int)≤(x.frm:Int):=Int.natCast_nonneg _
   have hrl:(Sp.outE (Es.take k) x.frm).length≤256:=by have:=Sp.outE_len (Es.take k) x.frm;rw[List.length_take] at this;omega
   obtain⟨rl,HRL⟩:∃ rl,Hid ((Sp.outE (Es.take k) x.frm).length=rl):=⟨_,rfl⟩
   rw[uh HRL] at hrl
   go_upto_region 5 with fail
   generalize hV1:World.alloc _ _=V1
   have hbV:Below wr.heap.size wr V1:=by rw[← hV1];exact(Below.refl _ _).alloc nlr _
   have hvb1:V1.heap[wr.heap.size]? = some (.cells #[.int .i64 (x.frm:Int),.int .i64 (x.to:Int),.int .i64 x.n] 67 (0,0)):=by rw[← hV1];exact heap_alloc_new wr _
   clear hV1 d0 d1 d2
   have hVV:=(uh HV).below hbV
   have hbB:Below (w.heap.size+1) W1 V1:=hb.trans (hbV.mono (by omega))
   have y0:V1.cell? ⟨wr.heap.size,0,none⟩=some (.int .i64 (x.frm:Int)):=by simp[World.cell?,hvb1]
   have y1:V1.cell? ⟨wr.heap.size,1,none⟩=some (.int .i64 (x.to:Int)):=by simp[World.cell?,hvb1]
   have y2:V1.cell? ⟨wr.heap.size,2,none⟩=some (.int .i64 x.n):=by simp[World.cell?,hvb1]
   have hvl:wr.heap.size < V1.heap.size:=World.block_lt_of_cell? V1 _ y0
   have hcD:=hVV.cell hxn
   have hfD:V1.frozen? ⟨w.heap.size+1,x.frm,none⟩=false:=hVV.o.frozenAt x.frm
   have hDl:=hVV.lt
   have hr:=hVV.own x.frm hxn
   rw[uh HRL] at hr
   obtain⟨sl,hsl⟩:∃ sl,f x.frm=sl:=⟨_,rfl⟩
   have HVV:=hde hVV
   have hnd:=hVV.nd x.frm hxn
   rw[hsl] at hcD hr hnd
   have HSL:=hde hsl
   have hne1:some wr.heap.size≠sl.ownBlock:=fun e=>by have h:=((uh HV).own x.frm hxn).lt wr.heap.size (by rw[hsl];exact e.symm);omega
   clear hsl hvb1 hbV hVV
   have hne0:some (w.heap.size+1)≠sl.ownBlock:=fun e=>hnd e.symm
   apply wp_join1 (fun sl' w'=>∃ f',Hid (EbV w' (w.heap.size+1) (w.heap.size+1) n f' (Es.take (k+1)))∧Hid (Below (w.heap.size+1) W1 w'))
   apply Exists.intro
   apply And.intro
   case left =>
    go_region_law ((refine step_append_lies _ (by rfl) _ _ _ (by rfl) (w.heap.size+1) 67 t2 _ 3 24 Tryz.underlying63 ht2 hva hvb hvc rfl (by omega) sl _ _ (by rfl) (by first | exact hr.alloc _ | exact(hr.alloc _).drew | exact hr.drew.alloc _) ⟨V1.heap.size,0,none⟩ 1 1 [.int .i64 (x.frm:Int),.int .i64 (x.to:Int),.int .i64 x.n] (by rfl) (by rfl) (World.news_of_block (cs := #[.int .i64 (x.frm:Int),.int .i64 (x.to:Int),.int .i64 x.n]) (t:=67) (fr:=(0,0)) (heap_alloc_new V1 _)) (by simp[Value.oneCell']) (by omega) (by unfold maxLen;omega) (by omega) (by simp;omega) (V1.heap.size+1) (by simp) ?_;intro g1 cp1 w2 hown1 hgrow hat hlt1;have hq0:w2.cell? ⟨w.heap.size+1,x.frm,none⟩=some sl:=(hgrow.cell_far ⟨w.heap.size+1,x.frm,none⟩ (by simp;omega) hne0).trans (((Below.refl V1.heap.size V1).alloc nlr _).cell (p:=⟨w.heap.size+1,x.frm,none⟩) hDl.2 |>.trans hcD);have hq2:w2.cell? ⟨wr.heap.size,0,none⟩=some (.int .i64 (x.frm:Int)):=(hgrow.cell_far ⟨wr.heap.size,0,none⟩ (by simp;omega) hne1).trans (((Below.refl V1.heap.size V1).alloc nlr _).cell (p:=⟨wr.heap.size,0,none⟩) hvl |>.trans y0);have hq1:w2.frozen? ⟨w.heap.size+1,x.frm,none⟩=false:=(hgrow.frozen_far ⟨w.heap.size+1,x.frm,none⟩ (by simp;omega) hne0).trans (((Below.refl V1.heap.size V1).alloc nlr _).frozen (p:=⟨w.heap.size+1,x.frm,none⟩) hDl.2 |>.trans hfD)))
    all_goals
     first
      | (have hA:Below V1.heap.size V1 (V1.alloc (.cells #[.int .i64 (x.frm:Int),.int .i64 (x.to:Int),.int .i64 x.n] 67)):=(Below.refl V1.heap.size V1).alloc nlr _
         have hap:=((uh HVV).below hA).app x hxn (uh HRL) (by rw[uh HSL];exact hgrow) hown1 (by rw[uh HSL];rcases hat with h | h;exact Or.inl h;exact Or.inr (by rw[h];simp))
         rw[← uh HTK] at hap
         have hb2:Below (w.heap.size+1) W1 (w2.setCell ⟨w.heap.size+1,x.frm,none⟩ (.slice (some ⟨g1,0,none⟩) (rl+1) cp1)):=((hbB.trans (hA.mono (by omega))).grown hgrow (by simp;omega) (fun q hq=>(hr.lt q hq).1)).setCell (p:=⟨w.heap.size+1,x.frm,none⟩) nlr _
         generalize Value.slice (some ⟨g1,0,none⟩) (rl+1) cp1=sl' at *
         exact⟨rfl,sl',rfl,_,hap,hb2⟩)
      | (have hA:Below V1.heap.size V1 (V1.alloc (.cells #[.int .i64 (x.frm:Int),.int .i64 (x.to:Int),.int .i64 x.n] 67)).drew:=((Below.refl V1.heap.size V1).alloc nlr _).drew
         have hap:=((uh HVV).below hA).app x hxn (uh HRL) (by rw[uh HSL];exact hgrow) hown1 (by rw[uh HSL];rcases hat with h | h;exact Or.inl h;exact Or.inr (by rw[h];simp))
         rw[← uh HTK] at hap
         have hb2:Below (w.heap.size+1) W1 (w2.setCell ⟨w.heap.size+1,x.frm,none⟩ (.slice (some ⟨g1,0,none⟩) (rl+1) cp1)):=((hbB.trans (hA.mono (by omega))).grown hgrow (by simp;omega) (fun q hq=>(hr.lt q hq).1)).setCell (p:=⟨w.heap.size+1,x.frm,none⟩) nlr _
         generalize Value.slice (some ⟨g1,0,none⟩) (rl+1) cp1=sl' at *
         exact⟨rfl,sl',rfl,_,hap,hb2⟩)
      | trace_state
   case right =>
   rintro sl' w4 ⟨f',HV4,HB4⟩
   go_wp2
   go_roundw
   case rel=>exact⟨k+1,f',by omega,by go_num,HV4,uh HB4⟩
   case measure=>simp[intOf];omega
  ·have hltz:¬ (k:Int) < (m:Int):=by omega
   have hkm:k=Es.length:=by rw[uh HM];omega
   have HFN:Hid (O (.returned (.slice (some ⟨w.heap.size+1,0,none⟩) n n)) wr):=by
    show O _ _
    rw[← uh hO]
    have h:=uh HV
    rw[hkm,List.take_length] at h
    exact⟨hbw,_,f,rfl,h.low (by omega)⟩
   go_wp2
   exact uh HFN
def NJPost (B:Nat) (pv:Option Addr) (n kv limit:Nat) (Es:List Sp.Ed) (w:World) (e:Ending) (w':World):Prop :=
 Below w.heap.size w w'∧∃ pe ke,e = .returned (.agg (pjobA B pv n kv pe ke limit))∧EbR w' pe n Es
theorem pnewjob (pn:Option Addr) (n kn:Nat) (pv:Option Addr) (kv:Nat) (pe:Option Addr) (ke B limit:Nat) (Es:List Sp.Ed) (w:World) (he:EdgesAt w pe Es) (hn:n≤64) (hm:Es.length≤256) (hok:∀ x ∈ Es,x.frm < n) :
  Calls Tryz.prog 23 #[.agg #[.slice pn n kn,.slice pv n kv,.slice pe Es.length ke],.pointer (some ⟨B,0,none⟩),.int .i64 limit] w (NJPost B pv n kv limit Es w):=by
 generalize hO:NJPost B pv n kv limit Es w=O
 replace hO:=hde hO
 have HEB:=hde (fun W (hb:Below w.heap.size w W)=>pebv pn n kn pv kv pe ke Es W (he.below hb) hn hm hok)
 have HB0:=hde (two_new w #[.slice pn n kn,.slice pv n kv,.slice pe Es.length ke] #[.pointer none,.slice none 0 0,.slice none 0 0,.int .i64 0] 79 86)
 clear he hok
 generalize Es.length=m at *
 have HEN:Hid (∀ (args:Array Value) (w:World),(callFunc 37 args).run Tryz.prog w = .ok (.enter 37 args) w):=cfe Tryz.func37 (by kernel_rfl) (by kernel_rfl)
 go_enter Tryz.func23,Tryz.ntmps23
 go_upto_region 1 with fail
 generalize hW:World.alloc (World.alloc _ _) _=W0
 obtain⟨hbg,hbr,hb0,hz0⟩:=uh HB0 W0 hW.symm
 clear hW HB0
 have g0:W0.cell? ⟨w.heap.size,0,none⟩=some (.slice pn n kn):=by simp[World.cell?,hbg]
 have g1:W0.cell? ⟨w.heap.size,1,none⟩=some (.slice pv n kv):=by simp[World.cell?,hbg]
 have g2:W0.cell? ⟨w.heap.size,2,none⟩=some (.slice pe m ke):=by simp[World.cell?,hbg]
 have hGl:w.heap.size < W0.heap.size:=by omega
 have hRl:w.heap.size+1 < W0.heap.size:=by omega
 have HBR:=hde hbr
 clear hbg hbr
 go_region_law (refine step_call (by rfl) _ _ _ (by rfl) 37 (by rfl) _ (by rfl) (uh HEN) (uh HEB _ (by first | exact hb0 | exact hb0.drew)) ?_;rintro e wq ⟨hbq0,D,f,rfl,hv⟩;dsimp only;have hbq:Below W0.heap.size W0 wq:=(by first | exact hbq0 | exact(Below.refl _ _).drew.trans (hbq0.mono nlr));have hv':EbV wq W0.heap.size D n f Es:=hv;have q1:wq.cell? ⟨w.heap.size,1,none⟩=some (.slice pv n kv):=(hbq.cell (p:=⟨w.heap.size,1,none⟩) hGl).trans g1;have hR:=(hbq.block _ hRl).trans (uh HBR);have r0:wq.cell? ⟨w.heap.size+1,0,none⟩=some (.pointer none):=(by simp[World.cell?,hR]);have r1:wq.cell? ⟨w.heap.size+1,1,none⟩=some (.slice none 0 0):=(by simp[World.cell?,hR]);have r2:wq.cell? ⟨w.heap.size+1,2,none⟩=some (.slice none 0 0):=(by simp[World.cell?,hR]);have r3:wq.cell? ⟨w.heap.size+1,3,none⟩=some (.int .i64 0):=(by simp[World.cell?,hR]);have f0:wq.frozen? ⟨w.heap.size+1,0,none⟩=false:=(by simp[World.frozen?,hR]);have f1:wq.frozen? ⟨w.heap.size+1,1,none⟩=false:=(by simp[World.frozen?,hR]);have f2:wq.frozen? ⟨w.heap.size+1,2,none⟩=false:=(by simp[World.frozen?,hR]);have f3:wq.frozen? ⟨w.heap.size+1,3,none⟩=false:=(by simp[World.frozen?,hR]);have HBQ:=hde hbq;have HVQ:=hde hv';clear hbq hbq0 hv hv' hR)
 all_goals
  have HFN:Hid (O (.returned (.agg #[.pointer (some ⟨B,0,none⟩),.slice pv n kv,.slice (some ⟨D,0,none⟩) n n,.int .i64 limit])) ((((wq.setCell ⟨w.heap.size+1,0,none⟩ (.pointer (some ⟨B,0,none⟩))).setCell ⟨w.heap.size+1,1,none⟩ (.slice pv n kv)).setCell ⟨w.heap.size+1,2,none⟩ (.slice (some ⟨D,0,none⟩) n n)).setCell ⟨w.heap.size+1,3,none⟩ (.int .i64 limit))):=by
   show O _ _
   rw[← uh hO]
   have h1:=((((uh HVQ).setR (R:=w.heap.size+1) (j:=0) (v := .pointer (some ⟨B,0,none⟩)) hRl).setR (R:=w.heap.size+1) (j:=1) (v := .slice pv n kv) hRl).setR (R:=w.heap.size+1) (j:=2) (v := .slice (some ⟨D,0,none⟩) n n) hRl).setR (R:=w.heap.size+1) (j:=3) (v := .int .i64 limit) hRl
   have h2:Below w.heap.size w wq:=hb0.trans ((uh HBQ).mono (by omega))
   exact⟨(((h2.setCell (p:=⟨w.heap.size+1,0,none⟩) (Nat.le_succ _) _).setCell (p:=⟨w.heap.size+1,1,none⟩) (Nat.le_succ _) _).setCell (p:=⟨w.heap.size+1,2,none⟩) (Nat.le_succ _) _).setCell (p:=⟨w.heap.size+1,3,none⟩) (Nat.le_succ _) _,_,_,rfl,h1.read⟩
  first
   | (go_wp2;exact bodyPost_ret (v := .agg #[.pointer (some ⟨B,0,none⟩),.slice pv n kv,.slice (some ⟨D,0,none⟩) n n,.int .i64 limit]) (by simp[results,Tryz.results23,go_sem,r0,r1,r2,r3]) rfl (uh HFN))
   | trace_state
theorem rgo_end {P:Sp.Pg} {Es:List Sp.Ed} {cap s:Nat} {c:Sp.Cfg} {res:Sp.Res} (hg:Sp.rgo P Es cap (cap+1 - s) s c=res) (hs:s≤cap) {e:Int} (he:Sp.endsR cap c s=e) (h0:e≠0):(res.outcome:Int)=e∧res.step=s∧res.vertex=0∧res.vals=c.val:=by
 rw[show cap+1 - s=(cap - s)+1 by omega,Sp.rgo] at hg
 unfold Sp.endsR at he
 by_cases c1:Sp.quiet c s=true
 ·rw[if_pos c1] at hg he;rw[← hg,← he];exact⟨rfl,rfl,rfl,rfl⟩
 ·rw[if_neg c1] at hg he
  by_cases c2:cap≤s
  ·rw[if_pos c2] at hg he;rw[← hg,← he];exact⟨rfl,rfl,rfl,rfl⟩
  ·rw[if_neg c2] at he;exact absurd he.symm h0
theorem rgo_on {P:Sp.Pg} {Es:List Sp.Ed} {cap s:Nat} {c:Sp.Cfg} {res:Sp.Res} (hg:Sp.rgo P Es cap (cap+1 - s) s c=res) (hs:s≤cap) (he:Sp.endsR cap c s=0):s < cap∧(match Sp.stp P Es c s c.val.length with | .error i=>(⟨3,s,i,c.val⟩:Sp.Res) | .ok a=>Sp.rgo P Es cap (cap+1 - (s+1)) (s+1) (Sp.nextC P c.val.length a))=res:=by
 rw[show cap+1 - s=(cap - s)+1 by omega,Sp.rgo] at hg
 unfold Sp.endsR at he
 by_cases c1:Sp.quiet c s=true
 ·rw[if_pos c1] at he;exact absurd he (by decide)
 ·rw[if_neg c1] at hg he
  by_cases c2:cap≤s
  ·rw[if_pos c2] at he;exact absurd he (by decide)
  ·rw[if_neg c2] at hg
   refine⟨by omega,?_⟩
   rw[show cap+1 - (s+1)=cap - s by omega]
   exact hg
theorem endsR_bd (cap:Nat) (c:Sp.Cfg) (s:Nat):0≤Sp.endsR cap c s∧Sp.endsR cap c s≤2:=by
 unfold Sp.endsR;split <;> (try split) <;> omega
def PRPost (res:Sp.Res) (w:World) (e:Ending) (w':World):Prop :=
 Below w.heap.size w w'∧∃ v,e = .returned (.agg #[.int .u8 res.outcome,.int .i64 res.step,.int .i64 res.vertex,v])∧w'.ownsRow w.heap.size 2 1 v res.vals.length (res.vals.map (Value.int .i64))
theorem pr_end {res:Sp.Res} {w wq:World} {o s i:Int} {V:List Int} {p:Option Addr} {n k B:Nat} (hr:(res.outcome:Int)=o∧(res.step:Int)=s∧(res.vertex:Int)=i∧res.vals=V∧V.length=n) (hb:Below w.heap.size w wq) (ho:wq.ownsRow B 2 1 (.slice p n k) n (V.map (Value.int .i64))) (hB:w.heap.size+1+1 < B) :
  PRPost res w (.returned (.agg #[.int .u8 o,.int .i64 s,.int .i64 i,.slice p n k])) (rset4 wq (w.heap.size+1+1) (.int .u8 o) (.int .i64 s) (.int .i64 i) (.slice p n k)):=by
 obtain⟨e1,e2,e3,e4,e5⟩:=hr
 refine⟨?_,.slice p n k,by rw[e1,e2,e3],?_⟩
 ·have hR:w.heap.size≤w.heap.size+1+1:=by omega
  exact(((hb.setCell (p:=⟨w.heap.size+1+1,0,none⟩) hR _).setCell (p:=⟨w.heap.size+1+1,1,none⟩) hR _).setCell (p:=⟨w.heap.size+1+1,2,none⟩) hR _).setCell (p:=⟨w.heap.size+1+1,3,none⟩) hR _
 ·rw[e4,e5]
  have o':∀ {W:World} (j:Nat) (u:Value),W.ownsRow B 2 1 (.slice p n k) n (V.map (Value.int .i64))→(W.setCell ⟨w.heap.size+1+1,j,none⟩ u).ownsRow B 2 1 (.slice p n k) n (V.map (Value.int .i64)):=fun j u h=>ownsRow_setCell_below h (a:=⟨w.heap.size+1+1,j,none⟩) hB u
  exact own_low (o' 3 _ (o' 2 _ (o' 1 _ (o' 0 _ ho)))) (by omega)
structure PRI (W0 wr:World) (K n:Nat) (P:Sp.Pg) (Es:List Sp.Ed) (limit s:Nat) (c:Sp.Cfg) (p:Option Addr) (cap:Nat) (res:Sp.Res):Prop where
 cb:wr.heap[K]? = some (.cells #[.int .i64 (s:Int),.slice p n cap,.int .i64 c.all] 91 (0,0))
 vx:VxAt wr p c n
 ok:Sp.CfgOk n c
 go:Sp.rgo P Es limit (limit+1 - s) s c=res
 sv:Save2 K K W0 wr
def stepAt (K:Nat) (w:World):Nat:=match w.cell? ⟨K,0,none⟩ with
 | some v=>(intOf v).toNat
 | none=>0
theorem stepAt_of {w:World} {K:Nat} {n:Int} (h:w.cell? ⟨K,0,none⟩=some (.int .i64 n)):stepAt K w=n.toNat:=by
 unfold stepAt;rw[h];rfl
theorem PRI.next {W0 w5:World} {K n:Nat} {P:Sp.Pg} {Es:List Sp.Ed} {limit s cap B:Nat} {p:Option Addr} {c:Sp.Cfg} {res:Sp.Res} {x y z:Value} (o:Obj) (hb:w5.heap[K]? = some (.cells #[x,y,z] 91 (0,0))) (ho:w5.ownsRow B 131 4 (.slice p n cap) n (vxC c.val c.rst c.got c.inn n)) (hK:K < B) (ok:Sp.CfgOk n c) (hg:Sp.rgo P Es limit (limit+1 - (s+1)) (s+1) c=res) (hs:Save2 K K W0 w5) :
  PRI W0 ((pset3 w5 K (.int .i64 ((s:Int)+1)) (.slice p n cap) (.int .i64 c.all)).alloc o) K n P Es limit (s+1) c p cap res:=by
 have hblk:=blk_set (i:=2) (blk_set (i:=1) (blk_set (i:=0) hb (.int .i64 ((s:Int)+1))) (.slice p n cap)) (.int .i64 c.all)
 have hblk':(pset3 w5 K (.int .i64 ((s:Int)+1)) (.slice p n cap) (.int .i64 c.all)).heap[K]? = some (.cells #[.int .i64 ((s:Int)+1),.slice p n cap,.int .i64 c.all] 91 (0,0)):=by
  unfold pset3
  simpa using hblk
 have hA:Below (pset3 w5 K (.int .i64 ((s:Int)+1)) (.slice p n cap) (.int .i64 c.all)).heap.size (pset3 w5 K (.int .i64 ((s:Int)+1)) (.slice p n cap) (.int .i64 c.all)) ((pset3 w5 K (.int .i64 ((s:Int)+1)) (.slice p n cap) (.int .i64 c.all)).alloc o):=(Below.refl _ _).alloc nlr _
 have ho':=own_pset3 ho hK (.int .i64 ((s:Int)+1)) (.slice p n cap) (.int .i64 c.all)
 obtain⟨p',cap',e,hv⟩:=vx_of_own (all:=c.all) ho'
 injection e with e1 _ e3
 subst e1 e3
 refine⟨?_,VxAt.below hv hA,ok,hg,?_⟩
 ·rw[hA.block K (Array.getElem?_eq_some_iff.1 hblk').1,hblk'];rfl
 ·exact(((hs.set (q:=K) (j:=0) (Or.inl rfl) _).set (q:=K) (j:=1) (Or.inl rfl) _).set (q:=K) (j:=2) (Or.inl rfl) _).trans (Save2.of_below hA)
theorem prun (B:Nat) (pf:Option Addr) (n kf:Nat) (pe:Option Addr) (ke limit:Nat) (P:Sp.Pg) (Es:List Sp.Ed) (p:Option Addr) (cap:Nat) (c0:Sp.Cfg) (z f:Addr) (F:Nat) (res:Sp.Res) (w:World)
  (hp:PrgAt w B P) (her:Errs w z f) (he:EbR w pe n Es) (hv:VxAt w p c0 n) (hok:Sp.CfgOk n c0) (hj:Sp.JobOk P Es n) (hl:limit≤200) (hres:Sp.rgo P Es limit (limit+1) 0 c0=res)
  (hcf:∀ (args:Array Value) (w:World),(callFunc F args).run Tryz.prog w = .ok (.enter F args) w) (hfc:∀ (a:Int) (q:Option Addr) (m k:Nat) (b:Int) (W:World),Calls Tryz.prog F #[.agg #[.int .i64 a,.slice q m k,.int .i64 b]] W fun e w'=>e = .returned (.tuple #[])∧Below W.heap.size W w') :
  Calls Tryz.prog 24 #[.agg (pjobA B pf n kf pe ke limit),pcfgV 0 p n cap c0.all,.func (.func F) #[] #[]] w (PRPost res w):=by
 generalize hO:PRPost res w=O
 replace hO:=hde hO
 have HP:=hde hp
 have HR:=hde her
 have HE:=hde he
 have HJ:=hde hj
 have HFC:=hde hfc
 have hn64:=hj.n64
 have HB0:=hde (three_new w (pjobA B pf n kf pe ke limit) #[.int .i64 0,.slice p n cap,.int .i64 c0.all] #[.int .u8 0,.int .i64 0,.int .i64 0,.slice none 0 0] 86 91 44)
 have HIN:Hid (∀ W,Below w.heap.size w W→W.heap[w.heap.size+1]? = some (.cells #[.int .i64 0,.slice p n cap,.int .i64 c0.all] 91 (0,0))→PRI W W (w.heap.size+1) n P Es limit 0 c0 p cap res):=fun W hb hk=>⟨hk,hv.below hb,hok,hres,Save2.refl _ _ _⟩
 have HENV:Hid (∀ (args:Array Value) (w:World),(callFunc 39 args).run Tryz.prog w = .ok (.enter 39 args) w):=cfe Tryz.func39 (by kernel_rfl) (by kernel_rfl)
 clear hp her he hv hok hj hfc hres
 unfold pcfgV
 unfold pjobA at *
 go_enter Tryz.func24,Tryz.ntmps24
 go_wp2_with fail
 generalize hW:World.alloc (World.alloc _ _) _=W0
 obtain⟨hbj,hbc,hbr,hb0,hz0⟩:=uh HB0 W0 hW.symm
 have HBJ:=hde hbj
 have HBR:=hde hbr
 have HI0:=hde (uh HIN W0 hb0 hbc)
 clear hW HB0 hbj hbc hbr HIN
 go_loopw [7] (fun _ wr=>∃ (s:Nat) (c:Sp.Cfg) (p:Option Addr) (cap:Nat),s≤limit∧Hid (PRI W0 wr (w.heap.size+1) n P Es limit s c p cap res)) (fun _ wr=>limit+1 - stepAt (w.heap.size+1) wr)
 case atStart=>exact⟨0,c0,p,cap,Nat.zero_le _,HI0⟩
 case round =>
  clear HI0
  obtain⟨s,c,p,cap,hs,HI⟩:=hrel
  have hsv:=(uh HI).sv
  have hszv:=hsv.size
  have hbW:Below w.heap.size w wr:=hb0.trans (hsv.below (by omega) (by omega) (by omega))
  have HRB:=hde ((hsv.block (w.heap.size+1+1) (by omega) (by omega) (by omega)).trans (uh HBR))
  have HJB:=hde ((hsv.block w.heap.size (by omega) (by omega) (by omega)).trans (uh HBJ))
  obtain⟨j0,j1,j2,j3⟩:=job4_cells (B:=B) (pf:=pf) (n:=n) (kf:=kf) (pe:=pe) (ke:=ke) (limit:=limit) (uh HJB)
  obtain⟨k0,k1,k2,_⟩:=cfg3_cells (uh HI).cb
  have HMS:Hid (stepAt (w.heap.size+1) wr=s):=by show _=_;rw[stepAt_of k0];rfl
  have HEN:=hde (pending B pf n kf pe ke limit s p n cap c wr (uh HI).vx (uh HI).ok.lv hn64 (by omega) hl)
  unfold pcfgV pjobA at HEN
  have heb:=endsR_bd limit c s
  obtain⟨en,HEE⟩:∃ en,Hid (Sp.endsR limit c s=en):=⟨_,rfl⟩
  rw[uh HEE] at HEN heb
  go_wp2_with fail
  refine(uh HEN).mono ?_
  rintro e w2 ⟨rfl,hb2⟩
  have hz2:=hb2.size
  have HI2:Hid (PRI W0 w2 (w.heap.size+1) n P Es limit s c p cap res):=⟨(hb2.block _ (Array.getElem?_eq_some_iff.1 (uh HI).cb).1).trans (uh HI).cb,(uh HI).vx.below hb2,(uh HI).ok,(uh HI).go,(uh HI).sv.trans (Save2.of_below hb2)⟩
  have hbW2:Below w.heap.size w w2:=hbW.trans (hb2.mono hbW.size)
  have HRB2:=hde ((hb2.block (w.heap.size+1+1) (by omega)).trans (uh HRB))
  have HJB2:=hde ((hb2.block w.heap.size (by omega)).trans (uh HJB))
  clear j0 j1 j2 j3 k0 k1 k2 HEN HRB HJB hbW hsv hb2
  obtain⟨k0,k1,k2,_⟩:=cfg3_cells (uh HI2).cb
  have hKl:w.heap.size+1 < w2.heap.size:=by omega
  have hRl:w.heap.size+1+1 < w2.heap.size:=by omega
  by_cases c1:en=0
  ·subst c1
   obtain⟨hslt,hgo⟩:=rgo_on (uh HI2).go hs (uh HEE)
   rw[(uh HI2).ok.lv] at hgo
   have HGO:=hde hgo
   clear hgo heb HI
   go_wp2_with fail
   refine(uh HFC _ _ _ _ _ _).mono ?_
   rintro e w3 ⟨rfl,hb3⟩
   have hz3:=hb3.size
   have hbW3:Below w.heap.size w w3:=hbW2.trans (hb3.mono hbW2.size)
   have HI3:Hid (PRI W0 w3 (w.heap.size+1) n P Es limit s c p cap res):=⟨(hb3.block _ hKl).trans (uh HI2).cb,(uh HI2).vx.below hb3,(uh HI2).ok,(uh HI2).go,(uh HI2).sv.trans (Save2.of_below hb3)⟩
   have HRB3:=hde ((hb3.block (w.heap.size+1+1) hRl).trans (uh HRB2))
   have HJB3:=hde ((hb3.block w.heap.size (by omega)).trans (uh HJB2))
   clear k0 k1 k2 HI2 HRB2 HJB2 hb3 hbW2
   obtain⟨j0,j1,j2,j3⟩:=job4_cells (B:=B) (pf:=pf) (n:=n) (kf:=kf) (pe:=pe) (ke:=ke) (limit:=limit) (uh HJB3)
   obtain⟨k0,k1,k2,_⟩:=cfg3_cells (uh HI3).cb
   have HST:=hde (pstep B pf n kf pe ke limit P Es p cap s c z f w3 ((uh HP).below hbW3) ((uh HR).below hbW3) ((uh HE).below hbW3) (uh HI3).vx (uh HI3).ok (uh HJ) (by omega))
   unfold pcfgV pjobA at HST
   obtain⟨o,HSO⟩:∃ o,Hid (Sp.stp P Es c s n=o):=⟨_,rfl⟩
   rw[uh HSO] at HST HGO
   go_wp2_with fail
   cases o with
   | error i =>
    refine(uh HST).mono ?_
    rintro e w4 ⟨hb4,rfl⟩
    have hz4:=hb4.size
    have hbW4:Below w.heap.size w w4:=hbW3.trans (hb4.mono hbW3.size)
    have HI4:Hid (PRI W0 w4 (w.heap.size+1) n P Es limit s c p cap res):=⟨(hb4.block _ (by omega)).trans (uh HI3).cb,(uh HI3).vx.below hb4,(uh HI3).ok,(uh HI3).go,(uh HI3).sv.trans (Save2.of_below hb4)⟩
    have HRES:Hid ((res.outcome:Int)=3∧(res.step:Int)=(s:Int)∧(res.vertex:Int)=(i:Int)∧res.vals=c.val∧c.val.length=n):=by
     have h:(⟨3,s,i,c.val⟩:Sp.Res)=res:=uh HGO
     rw[← h]
     exact⟨rfl,rfl,rfl,rfl,(uh HI4).ok.lv⟩
    have hRb4:=(hb4.block (w.heap.size+1+1) (by omega)).trans (uh HRB3)
    clear j0 j1 j2 j3 k0 k1 k2 HI3 HJB3 hb4 HST
    go_upto_region 7 with fail
    generalize hW5:World.alloc _ _=w5
    have hb5:Below w4.heap.size w4 w5:=by rw[← hW5];exact(Below.refl _ _).alloc nlr _
    have hz5:=hb5.size
    have HRB:=hde ((hb5.block (w.heap.size+1+1) (by omega)).trans hRb4)
    have hbW:Below w.heap.size w w5:=hbW4.trans (hb5.mono hbW4.size)
    obtain⟨k0,k1,k2,_⟩:=cfg3_cells ((hb5.block _ (by omega)).trans (uh HI4).cb)
    have hKl:w.heap.size+1 < w5.heap.size:=by omega
    have hRl:w.heap.size+1+1 < w5.heap.size:=by omega
    have hWl:w.heap.size+1+1 < w5.heap.size:=by omega
    have HVAL:Hid (∀ W,Below w5.heap.size w5 W→Calls Tryz.prog 39 #[.agg #[.int .i64 (s:Int),.slice p n cap,.int .i64 c.all]] W fun e w'=>Below W.heap.size W w'∧∃ v,e = .returned v∧w'.ownsRow w5.heap.size 2 1 v n (c.val.map (Value.int .i64))):=by
     show ∀ W,_
     intro W hW
     refine(pvalues s p n cap c W (((uh HI4).vx.below hb5).below hW) (uh HI4).ok.lv hn64).mono ?_
     rintro e w' ⟨h1,v,h2,h3⟩
     exact⟨h1,v,h2,own_low h3 hW.size⟩
    clear hW5 hb5 hRb4
    go_region_law (refine step_call (by rfl) _ _ _ (by rfl) 39 (by rfl) _ (by rfl) (uh HENV) (uh HVAL _ (by first | exact Below.refl _ _ | exact(Below.refl _ _).drew)) ?_;rintro e wq ⟨hbq0,vv,rfl,hov⟩;obtain⟨pvv,kvv,hpk,_⟩:=osl hov;subst hpk;dsimp only;have hbq:Below w5.heap.size w5 wq:=(by first | exact hbq0 | exact(Below.refl _ _).drew.trans (hbq0.mono nlr));have q0:wq.cell? ⟨w.heap.size+1,0,none⟩=some (.int .i64 (s:Int)):=(hbq.cell (p:=⟨w.heap.size+1,0,none⟩) hKl).trans k0;have hRq:=(hbq.block (w.heap.size+1+1) hRl).trans (uh HRB);have r0:wq.cell? ⟨w.heap.size+1+1,0,none⟩=some (.int .u8 0):=(by simp[World.cell?,hRq]);have rf0:wq.frozen? ⟨w.heap.size+1+1,0,none⟩=false:=(by simp[World.frozen?,hRq]);have r1:wq.cell? ⟨w.heap.size+1+1,1,none⟩=some (.int .i64 0):=(by simp[World.cell?,hRq]);have rf1:wq.frozen? ⟨w.heap.size+1+1,1,none⟩=false:=(by simp[World.frozen?,hRq]);have r2:wq.cell? ⟨w.heap.size+1+1,2,none⟩=some (.int .i64 0):=(by simp[World.cell?,hRq]);have rf2:wq.frozen? ⟨w.heap.size+1+1,2,none⟩=false:=(by simp[World.frozen?,hRq]);have r3:wq.cell? ⟨w.heap.size+1+1,3,none⟩=some (.slice none 0 0):=(by simp[World.cell?,hRq]);have rf3:wq.frozen? ⟨w.heap.size+1+1,3,none⟩=false:=(by simp[World.frozen?,hRq]);have HBQ:=hde hbq;have HOV:=hde hov;clear hbq hbq0 hov hRq)
    all_goals
     have HFN:Hid (O (.returned (.agg #[.int .u8 3,.int .i64 (s:Int),.int .i64 (i:Int),.slice pvv n kvv])) (rset4 wq (w.heap.size+1+1) (.int .u8 3) (.int .i64 (s:Int)) (.int .i64 (i:Int)) (.slice pvv n kvv))):=by
      show O _ _
      rw[← uh hO]
      exact pr_end (uh HRES) (hbW.trans ((uh HBQ).mono hbW.size)) (uh HOV) hWl
     first
      | (go_wp2;exact bodyPost_ret (v := .agg #[.int .u8 3,.int .i64 (s:Int),.int .i64 (i:Int),.slice pvv n kvv]) (by simp[results,Tryz.results24,go_sem,r0,r1,r2,r3]) rfl (uh HFN))
      | trace_state
   | ok a =>
    refine(uh HST).mono ?_
    rintro e w4 ⟨hb4,sl,rfl,hos⟩
    have hz4:=hb4.size
    obtain⟨pn,kn,hpk,_⟩:=osl hos
    subst hpk
    have hokA:Sp.CfgOk n (Sp.nextC P n a):=Sp.next_ok (uh HJ) (Sp.stp_ok (uh HJ) num_i64 (uh HI3).ok (by omega) n nlr a (uh HSO))
    have hcb4:=(hb4.block (w.heap.size+1) (by omega)).trans (uh HI3).cb
    have HI5:Hid (∀ o,PRI W0 ((pset3 w4 (w.heap.size+1) (.int .i64 ((s:Int)+1)) (.slice pn n kn) (.int .i64 a.all)).alloc o) (w.heap.size+1) n P Es limit (s+1) (Sp.nextC P n a) pn kn res):=fun o=>PRI.next o hcb4 hos (by omega) hokA (uh HGO) ((uh HI3).sv.trans (Save2.of_below hb4))
    clear j0 j1 j2 j3 k0 k1 k2
    obtain⟨k0,k1,k2,kf⟩:=cfg3_cells hcb4
    have f0:=kf 0
    have f1:=kf 1
    have f2:=kf 2
    have hKl4:w.heap.size+1 < w4.heap.size:=by omega
    clear hos hb4 hcb4 HI3 HJB3 HST HRB3 kf
    go_wp2
    go_roundw
    case rel=>exact⟨s+1,_,pn,kn,by omega,hde (uh HI5 _)⟩
    case measure =>
     have h1:=uh HMS
     have h2:=stepAt_of (cfg3_cells (uh HI5 (.cells #[.int .i64 ((s:Int)+1),.slice pn n kn,.int .i64 a.all] 91)).cb).1
     unfold pset3 at h2
     rw[h1,h2]
     omega
  ·have c1b:(en != 0)=true:=by rw[bne_iff_ne];exact c1
   obtain⟨e1,e2,e3,e4⟩:=rgo_end (uh HI2).go hs (uh HEE) c1
   have HRES:Hid ((res.outcome:Int)=en∧(res.step:Int)=(s:Int)∧(res.vertex:Int)=0∧res.vals=c.val∧c.val.length=n):=⟨e1,by rw[e2],by rw[e3];rfl,e4,(uh HI2).ok.lv⟩
   have HRB:=HRB2
   have hbW:=hbW2
   have hWl:w.heap.size+1+1 < w2.heap.size:=by omega
   have HVAL:Hid (∀ W,Below w2.heap.size w2 W→Calls Tryz.prog 39 #[.agg #[.int .i64 (s:Int),.slice p n cap,.int .i64 c.all]] W fun e w'=>Below W.heap.size W w'∧∃ v,e = .returned v∧w'.ownsRow w2.heap.size 2 1 v n (c.val.map (Value.int .i64))):=by
    show ∀ W,_
    intro W hW
    refine(pvalues s p n cap c W ((uh HI2).vx.below hW) (uh HI2).ok.lv hn64).mono ?_
    rintro e w' ⟨h1,v,h2,h3⟩
    exact⟨h1,v,h2,own_low h3 hW.size⟩
   clear e1 e2 e3 e4 c1
   go_upto_region 3 with fail
   go_region_law (refine step_call (by rfl) _ _ _ (by rfl) 39 (by rfl) _ (by rfl) (uh HENV) (uh HVAL _ (by first | exact Below.refl _ _ | exact(Below.refl _ _).drew)) ?_;rintro e wq ⟨hbq0,vv,rfl,hov⟩;obtain⟨pvv,kvv,hpk,_⟩:=osl hov;subst hpk;dsimp only;have hbq:Below w2.heap.size w2 wq:=(by first | exact hbq0 | exact(Below.refl _ _).drew.trans (hbq0.mono nlr));have q0:wq.cell? ⟨w.heap.size+1,0,none⟩=some (.int .i64 (s:Int)):=(hbq.cell (p:=⟨w.heap.size+1,0,none⟩) hKl).trans k0;have hRq:=(hbq.block (w.heap.size+1+1) hRl).trans (uh HRB);have r0:wq.cell? ⟨w.heap.size+1+1,0,none⟩=some (.int .u8 0):=(by simp[World.cell?,hRq]);have rf0:wq.frozen? ⟨w.heap.size+1+1,0,none⟩=false:=(by simp[World.frozen?,hRq]);have r1:wq.cell? ⟨w.heap.size+1+1,1,none⟩=some (.int .i64 0):=(by simp[World.cell?,hRq]);have rf1:wq.frozen? ⟨w.heap.size+1+1,1,none⟩=false:=(by simp[World.frozen?,hRq]);have r2:wq.cell? ⟨w.heap.size+1+1,2,none⟩=some (.int .i64 0):=(by simp[World.cell?,hRq]);have rf2:wq.frozen? ⟨w.heap.size+1+1,2,none⟩=false:=(by simp[World.frozen?,hRq]);have r3:wq.cell? ⟨w.heap.size+1+1,3,none⟩=some (.slice none 0 0):=(by simp[World.cell?,hRq]);have rf3:wq.frozen? ⟨w.heap.size+1+1,3,none⟩=false:=(by simp[World.frozen?,hRq]);have HBQ:=hde hbq;have HOV:=hde hov;clear hbq hbq0 hov hRq)
   all_goals
    have HFN:Hid (O (.returned (.agg #[.int .u8 en,.int .i64 (s:Int),.int .i64 0,.slice pvv n kvv])) (rset4 wq (w.heap.size+1+1) (.int .u8 en) (.int .i64 (s:Int)) (.int .i64 0) (.slice pvv n kvv))):=by
     show O _ _
     rw[← uh hO]
     exact pr_end (uh HRES) (hbW.trans ((uh HBQ).mono hbW.size)) (uh HOV) hWl
    first
     | (go_wp2;exact bodyPost_ret (v := .agg #[.int .u8 en,.int .i64 (s:Int),.int .i64 0,.slice pvv n kvv]) (by simp[results,Tryz.results24,go_sem,r0,r1,r2,r3]) rfl (uh HFN))
     | trace_state
structure CompEnv (w:World):Prop where
 shapes:ShapesAt w
 split:SplitOk w
 err:∃ u p,w.cell? ⟨5,0,none⟩=some (.iface u p)
theorem CompEnv.below {w w':World} (h:CompEnv w) (hb:Below w.heap.size w w'):CompEnv w':=by
 obtain⟨u,p,he⟩:=h.err
 exact⟨h.shapes.below hb h.shapes.lt,csplit_ok_below h.split hb h.split.lt,u,p,(hb.cell (p:=⟨5,0,none⟩) (World.block_lt_of_cell? w _ he)).trans he⟩
theorem pcomp_any (s:ByteArray) (w:World) (h:CompEnv w):Calls Tryz.prog 36 #[.string s] w (CPost s w):=by
 by_cases hs:2000 < s.size
 ·exact pcomp_long s w hs
 ·obtain⟨u,p,he⟩:=h.err
  exact pcomp_short s w (by omega) h.shapes h.split u p he
theorem pisfrom (a b c:Int) (w:World):Calls Tryz.prog 22 #[.int .i64 a,.int .i64 b,.int .i64 c] w fun e w'=>e = .returned (.bool (decide (b≤a) && decide (a≤c)))∧w'=w:=by
 by_cases h1:b≤a
 ·by_cases h2:a≤c
  ·have d1:=decide_eq_true h1
   have d2:=decide_eq_true h2
   go_enter Tryz.func22,Tryz.ntmps22
   go_wp2
   go_ret
   first | exact⟨rfl,rfl⟩ | exact⟨by rw[d1,d2];rfl,rfl⟩
  ·have d1:=decide_eq_true h1
   have d2:=decide_eq_false h2
   go_enter Tryz.func22,Tryz.ntmps22
   go_wp2
   go_ret
   first | exact⟨rfl,rfl⟩ | exact⟨by rw[d1,d2];rfl,rfl⟩
 ·have d1:=decide_eq_false h1
  go_enter Tryz.func22,Tryz.ntmps22
  go_wp2
  go_ret
  first | exact⟨rfl,rfl⟩ | exact⟨by rw[d1];rfl,rfl⟩
theorem cells_allocB {W:World} {R:Nat} {C:Array Value} {t:TypeId} (h:W.heap[R]? = some (.cells C t (0,0))) (o:Obj) (i:Nat):(W.alloc o).cell? ⟨R,i,none⟩=C[i]?:=by
 rw[World.cell?_alloc_lt W o ⟨R,i,none⟩ (Array.getElem?_eq_some_iff.1 h).1]
 exact cell_of_row W R i C t (0,0) h
theorem CodeAt.far {w w':World} {R g:Nat} {L:List (List UInt8)} {a b c:Value} {t:TypeId} (h:CodeAt w g L) (hne:g≠R) (hR:w.heap[R]? = some (.cells #[a,b,c] t (0,0))) (hblk:∀ k,k≠R→w'.heap[k]? = w.heap[k]?) (hsz:w.heap.size≤w'.heap.size):CodeAt w' g L:=by
 have hcell:∀ i,w'.cell? ⟨g,i,none⟩=w.cell? ⟨g,i,none⟩:=fun i=>by unfold World.cell?;rw[hblk g hne]
 obtain⟨ms,m1,m2⟩:=h.mate
 refine⟨Nat.lt_of_lt_of_le h.lt hsz,fun i hi=>?_,ms,m1,fun i hi=>(hcell _).trans (m2 i hi)⟩
 obtain⟨fv,f1,f2⟩:=h.fn i hi
 refine⟨fv,(hcell _).trans f1,?_⟩
 rcases f2 with ⟨B,n,q1,q2,q3,q4⟩ | q
 ·refine Or.inl ⟨B,n,by omega,q2,?_,q4⟩
  have hB:B≠R:=by
   rintro rfl
   unfold NumAt at q3
   rw[hR] at q3
   injection q3 with q3
   injection q3 with q3 _ _
   have:=congrArg Array.size q3
   simp at this
  unfold NumAt at q3 ⊢
  rw[hblk B hB];exact q3
 ·exact Or.inr q
theorem LnsIn.far {X:List ByteArray} {w w':World} {P i R:Nat} {C:Array Value} {a b c:Value} {t:TypeId} (h:LnsIn X w P C i) (hP:R < P) (hR:w.heap[R]? = some (.cells #[a,b,c] t (0,0))) (hblk:∀ k,k≠R→w'.heap[k]? = w.heap[k]?) (hsz:w.heap.size≤w'.heap.size):LnsIn X w' P C i :=
 ⟨h.size,h.shape,fun j hj h5=>by obtain⟨g,cap,q1,q2,q3⟩:=h.code j hj h5;exact⟨g,cap,q1,q2,q3.far (by omega) hR hblk hsz⟩,h.comb⟩
def readE (g p:ByteArray):Int:=if eno g≠0 then eno g else (Sp.comp p).1
def RdPost (g p:ByteArray) (w:World) (e:Ending) (w':World):Prop :=
 Below w.heap.size w w'∧Small g∧∃ p0 n0 k0 p1 n1 k1 p2 n2 k2 pv,e = .returned (.tuple #[.agg #[.slice p0 n0 k0,.slice p1 n1 k1,.slice p2 n2 k2],.pointer pv,.int .i64 (readE g p)]) ∧
  (readE g p=0→n0=(vls g).length∧n1=(vls g).length∧n2=(els g).length∧IntsAt w' .i64 p1 (vls g)∧EdgesAt w' p2 (els g)∧∃ B,pv=some ⟨B,0,none⟩∧PrgAt w' B (Sp.pgOf p))
theorem pread (g p:ByteArray) (w:World) (hT:Lib.Utf8Tabs 3 4 w) (hC:CompEnv w):Calls Tryz.prog 21 #[.string g,.string p] w (RdPost g p w):=by
 generalize hO:RdPost g p w=O
 replace hO:=hde hO
 have hb0:Below w.heap.size w (w.alloc (.cells #[.slice none 0 0,.slice none 0 0,.slice none 0 0] 79)):=(Below.refl _ _).alloc nlr _
 have hR0:=heap_alloc_new w (.cells #[.slice none 0 0,.slice none 0 0,.slice none 0 0] 79)
 have hz0:=World.size_alloc w (.cells #[.slice none 0 0,.slice none 0 0,.slice none 0 0] 79)
 have HP:=hde (fun W (hb:Below w.heap.size w W)=>gparse_any g W (tabs_below hT hb) (split_ok_below hC.split hb))
 have HC:=hde (fun W (hb:Below w.heap.size w W)=>pcomp_any p W (hC.below hb))
 clear hT hC
 go_enter Tryz.func21,Tryz.ntmps21
 go_wp2_with fail
 generalize hW:World.alloc _ _=W0 at *
 refine(uh HP W0 hb0).mono ?_
 rintro e w1 ⟨hp1,hsm⟩
 have HSM:=hde hsm
 obtain⟨hb1,v,u,x,rfl,o0,o1,o2⟩:=parse_form hp1
 obtain⟨p0,k0,rfl,i0⟩:=ints_of_own o0
 obtain⟨p1,k1,rfl,i1⟩:=ints_of_own o1
 obtain⟨p2,k2,rfl,i2⟩:=edges_of_own o2
 rw[nls_len]
 have HO1:=hde o1
 have HO2:=hde o2
 obtain⟨ea,HEA⟩:∃ ea,Hid (eno g=ea):=⟨_,rfl⟩
 obtain⟨eb,HEB⟩:∃ eb,Hid (eat g=eb):=⟨_,rfl⟩
 obtain⟨n,HNV⟩:∃ n,Hid ((vls g).length=n):=⟨_,rfl⟩
 obtain⟨ne,HNE⟩:∃ ne,Hid ((els g).length=ne):=⟨_,rfl⟩
 rw[uh HEA,uh HEB,uh HNV,uh HNE]
 have hbw1:Below w.heap.size w w1:=hb0.trans (hb1.mono hb0.size)
 have hR1:=(hb1.block w.heap.size (by omega)).trans hR0
 have hz1:=hb1.size
 clear hp1 o0 o1 o2 i0 i1 i2 hW hR0 hb1 hsm
 unfold graphVal
 by_cases c1:ea=0
 ·subst c1
  go_wp2_with fail
  generalize hW1:World.alloc _ _=W1
  have hbA:Below w1.heap.size w1 W1:=by rw[← hW1];exact(Below.refl _ _).alloc nlr _
  have hG1:W1.heap[w1.heap.size]? = some (.cells #[.slice p0 n k0,.slice p1 n k1,.slice p2 ne k2] 79 (0,0)):=by rw[← hW1];exact heap_alloc_new w1 _
  clear hW1
  refine(uh HC W1 (hbw1.trans (hbA.mono hbw1.size))).mono ?_
  rintro e w2 ⟨hb2,pv,rfl,hpv⟩
  have HPV:=hde hpv
  have HG0:=hde hbA.size
  obtain⟨ca,HCA⟩:∃ ca,Hid ((Sp.comp p).1=ca):=⟨_,rfl⟩
  obtain⟨cb,HCB⟩:∃ cb,Hid ((Sp.comp p).2=cb):=⟨_,rfl⟩
  rw[uh HCA,uh HCB]
  have hb12:Below w1.heap.size w1 w2:=hbA.trans (hb2.mono hbA.size)
  have hbw2:Below w.heap.size w w2:=hbw1.trans (hb12.mono hbw1.size)
  have hG2:=(hb2.block w1.heap.size (Array.getElem?_eq_some_iff.1 hG1).1).trans hG1
  have hR2:=(hb12.block w.heap.size (by omega)).trans hR1
  have hz2:=hb12.size
  have hGl:=(Array.getElem?_eq_some_iff.1 hG1).1
  have r0:w2.cell? ⟨w.heap.size,0,none⟩=some (.slice none 0 0):=by simp[World.cell?,hR2]
  have r1:w2.cell? ⟨w.heap.size,1,none⟩=some (.slice none 0 0):=by simp[World.cell?,hR2]
  have r2:w2.cell? ⟨w.heap.size,2,none⟩=some (.slice none 0 0):=by simp[World.cell?,hR2]
  have rf0:w2.frozen? ⟨w.heap.size,0,none⟩=false:=by simp[World.frozen?,hR2]
  have rf1:w2.frozen? ⟨w.heap.size,1,none⟩=false:=by simp[World.frozen?,hR2]
  have rf2:w2.frozen? ⟨w.heap.size,2,none⟩=false:=by simp[World.frozen?,hR2]
  have g0:w2.cell? ⟨w1.heap.size,0,none⟩=some (.slice p0 n k0):=by simp[World.cell?,hG2]
  have g1:w2.cell? ⟨w1.heap.size,1,none⟩=some (.slice p1 n k1):=by simp[World.cell?,hG2]
  have g2:w2.cell? ⟨w1.heap.size,2,none⟩=some (.slice p2 ne k2):=by simp[World.cell?,hG2]
  have HFN:Hid (O (.returned (.tuple #[.agg #[.slice p0 n k0,.slice p1 n k1,.slice p2 ne k2],.pointer pv,.int .i64 ca])) (((w2.setCell ⟨w.heap.size,0,none⟩ (.slice p0 n k0)).setCell ⟨w.heap.size,1,none⟩ (.slice p1 n k1)).setCell ⟨w.heap.size,2,none⟩ (.slice p2 ne k2))):=by
   show O _ _
   rw[← uh hO]
   have hre:readE g p=ca:=by unfold readE;rw[if_neg (by rw[uh HEA];simp),uh HCA]
   refine⟨((hbw2.setCell (p:=⟨w.heap.size,0,none⟩) nlr _).setCell (p:=⟨w.heap.size,1,none⟩) nlr _).setCell (p:=⟨w.heap.size,2,none⟩) nlr _,uh HSM,p0,n,k0,p1,n,k1,p2,ne,k2,pv,by rw[hre],fun h0=>⟨(uh HNV).symm,(uh HNV).symm,(uh HNE).symm,?_,?_,?_⟩⟩
   ·have o:=obl (uh HO1) hb12
    have o':=ownsRow_setCell_below (ownsRow_setCell_below (ownsRow_setCell_below o (a:=⟨w.heap.size,0,none⟩) (by show w.heap.size < _;omega) (.slice p0 n k0)) (a:=⟨w.heap.size,1,none⟩) (by show w.heap.size < _;omega) (.slice p1 n k1)) (a:=⟨w.heap.size,2,none⟩) (by show w.heap.size < _;omega) (.slice p2 ne k2)
    obtain⟨pp,kk,ee,ii⟩:=ints_of_own o'
    injection ee with ee _ _
    rw[← ee] at ii;exact ii
   ·have o:=obl (uh HO2) hb12
    have o':=ownsRow_setCell_below (ownsRow_setCell_below (ownsRow_setCell_below o (a:=⟨w.heap.size,0,none⟩) (by show w.heap.size < _;omega) (.slice p0 n k0)) (a:=⟨w.heap.size,1,none⟩) (by show w.heap.size < _;omega) (.slice p1 n k1)) (a:=⟨w.heap.size,2,none⟩) (by show w.heap.size < _;omega) (.slice p2 ne k2)
    obtain⟨pp,kk,ee,ii⟩:=edges_of_own o'
    injection ee with ee _ _
    rw[← ee] at ii;exact ii
   ·obtain⟨P,C,e1,e2,e3,e4,e5⟩:=uh HPV (by rw[uh HCA,← hre];exact h0)
    refine⟨P,e1,?_⟩
    have hPR:w.heap.size < P:=by have:=hbA.size;omega
    have hblk:∀ k,k≠w.heap.size→(((w2.setCell ⟨w.heap.size,0,none⟩ (.slice p0 n k0)).setCell ⟨w.heap.size,1,none⟩ (.slice p1 n k1)).setCell ⟨w.heap.size,2,none⟩ (.slice p2 ne k2)).heap[k]? = w2.heap[k]?:=fun k hk=>(Below.heap_setCell _ _ _ k hk).trans ((Below.heap_setCell _ _ _ k hk).trans (Below.heap_setCell _ _ _ k hk))
    exact prg_of (by rw[uh HCA,← hre];exact h0) ((hblk P (by omega)).trans e3) (e4.far hPR hR2 hblk (by simp[World.setCell]))
  clear hb2 hb12 hbA hG1 hG2 hR1 hR2 HO1 HO2
  go_wp2
  exact bodyPost_ret (v := .tuple #[.agg #[.slice p0 n k0,.slice p1 n k1,.slice p2 ne k2],.pointer pv,.int .i64 ca]) (by simp[results,Tryz.results21,go_sem,r0,r1,r2]) rfl (uh HFN)
 ·have c1b:(ea != 0)=true:=by rw[bne_iff_ne];exact c1
  have hre:readE g p=ea:=by unfold readE;rw[if_pos (by rw[uh HEA];exact c1),uh HEA]
  have r0:w1.cell? ⟨w.heap.size,0,none⟩=some (.slice none 0 0):=by simp[World.cell?,hR1]
  have r1:w1.cell? ⟨w.heap.size,1,none⟩=some (.slice none 0 0):=by simp[World.cell?,hR1]
  have r2:w1.cell? ⟨w.heap.size,2,none⟩=some (.slice none 0 0):=by simp[World.cell?,hR1]
  have rf0:w1.frozen? ⟨w.heap.size,0,none⟩=false:=by simp[World.frozen?,hR1]
  have rf1:w1.frozen? ⟨w.heap.size,1,none⟩=false:=by simp[World.frozen?,hR1]
  have rf2:w1.frozen? ⟨w.heap.size,2,none⟩=false:=by simp[World.frozen?,hR1]
  have hHl:w.heap.size < w1.heap.size:=by omega
  have hblk:=blk_set (i:=2) (blk_set (i:=1) (blk_set (i:=0) hR1 (.slice none 0 0)) (.slice none 0 0)) (.slice none 0 0)
  have HXC:=hde (fun o i'=>cells_allocB hblk o i')
  have HFN:Hid (∀ o,O (.returned (.tuple #[.agg #[.slice none 0 0,.slice none 0 0,.slice none 0 0],.pointer none,.int .i64 ea])) ((((w1.setCell ⟨w.heap.size,0,none⟩ (.slice none 0 0)).setCell ⟨w.heap.size,1,none⟩ (.slice none 0 0)).setCell ⟨w.heap.size,2,none⟩ (.slice none 0 0)).alloc o)):=by
   show ∀ o,_
   intro o
   rw[← uh hO]
   have h5:=((hbw1.setCell (p:=⟨w.heap.size,0,none⟩) nlr (.slice none 0 0)).setCell (p:=⟨w.heap.size,1,none⟩) nlr (.slice none 0 0)).setCell (p:=⟨w.heap.size,2,none⟩) nlr (.slice none 0 0)
   exact⟨h5.alloc h5.size o,uh HSM,none,0,0,none,0,0,none,0,0,none,by rw[hre],fun h0=>absurd (hre.symm.trans h0) c1⟩
  have HRE:=hde hre
  have HC1:=hde c1
  clear hblk hre c1 hR1
  go_wp2
  have hXC:=uh HXC
  exact bodyPost_ret (v := .tuple #[.agg #[.slice none 0 0,.slice none 0 0,.slice none 0 0],.pointer none,.int .i64 ea]) (by simp[results,Tryz.results21,go_sem,hXC]) rfl (uh HFN _)
theorem below_rset4 {B:Nat} {w W:World} {R:Nat} (h:Below B w W) (hR:B≤R) (a b c d:Value):Below B w (rset4 W R a b c d):=
 (((h.setCell (p:=⟨R,0,none⟩) hR _).setCell (p:=⟨R,1,none⟩) hR _).setCell (p:=⟨R,2,none⟩) hR _).setCell (p:=⟨R,3,none⟩) hR _
def resOf (g p:ByteArray) (limit:Int):Sp.Res:=if askE g p limit=0 then Sp.runR (Sp.pgOf p) (vls g) (els g) limit.toNat else ⟨0,0,0,[]⟩
end Go.Proofs.YteflnddphpjahaaGreatDoor
