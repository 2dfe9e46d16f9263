import Derived.Test.YteflnddphpjahaaGreatDoorCmCqEtoCqK
import Derived.Test.YteflnddphpjahaaGreatDoorCmPlAtoRefA
import Derived.WalkKit
set_option linter.unusedVariables false
set_option linter.unusedSimpArgs false
set_option maxRecDepth 100000
set_option maxHeartbeats 16000000
namespace Go.Proofs.YteflnddphpjahaaGreatDoor
open Go.RowKit
theorem Dry.att {w:World} {M at' fuel h:Nat} {code loops:Value} (hd:Dry w M code at' fuel h loops) (a:Nat):Dry (w.setCell ⟨M,1,none⟩ (.int .i64 a)) M code a fuel h loops:=by
 obtain⟨c0,c1,c2,sg,st,hh,ll,dr,fz⟩:=hd
 refine⟨?_,?_,?_,fun j hj=>?_,fun j hj=>?_,?_,?_,?_,fun j=>?_⟩
 ·rw[cso (by omega)];exact c0
 ·exact World.cell?_setCell_same _ _ _ c1
 ·rw[cso (by omega)];exact c2
 ·rw[cso (by omega)];exact sg j hj
 ·rw[cso (by omega)];exact st j hj
 ·rw[cso (by omega)];exact hh
 ·rw[cso (by omega)];exact ll
 ·rw[cso (by omega)];exact dr
 ·rw[World.frozen?_setCell];exact fz j
theorem Dry.fue {w:World} {M at' fuel h:Nat} {code loops:Value} (hd:Dry w M code at' fuel h loops) (a:Nat):Dry (w.setCell ⟨M,2,none⟩ (.int .i64 a)) M code at' a h loops:=by
 obtain⟨c0,c1,c2,sg,st,hh,ll,dr,fz⟩:=hd
 refine⟨?_,?_,?_,fun j hj=>?_,fun j hj=>?_,?_,?_,?_,fun j=>?_⟩
 ·rw[cso (by omega)];exact c0
 ·rw[cso (by omega)];exact c1
 ·exact World.cell?_setCell_same _ _ _ c2
 ·rw[cso (by omega)];exact sg j hj
 ·rw[cso (by omega)];exact st j hj
 ·rw[cso (by omega)];exact hh
 ·rw[cso (by omega)];exact ll
 ·rw[cso (by omega)];exact dr
 ·rw[World.frozen?_setCell];exact fz j
theorem DryS.att {w:World} {M at' fuel h:Nat} {code:Value} {ls:List Nat} (hd:DryS w M code at' fuel h ls) (a:Nat):DryS (w.setCell ⟨M,1,none⟩ (.int .i64 a)) M code a fuel h ls:=by
 obtain⟨x,h1,h2⟩:=hd
 exact⟨x,h1.att a,((Only.refl M w).set _ _).own h2⟩
theorem DryS.fue {w:World} {M at' fuel h:Nat} {code:Value} {ls:List Nat} (hd:DryS w M code at' fuel h ls) (a:Nat):DryS (w.setCell ⟨M,2,none⟩ (.int .i64 a)) M code at' a h ls:=by
 obtain⟨x,h1,h2⟩:=hd
 exact⟨x,h1.fue a,((Only.refl M w).set _ _).own h2⟩
theorem DryS.drewN {w:World} {M at' fuel h:Nat} {code:Value} {ls:List Nat} (hd:DryS w M code at' fuel h ls) (k:Nat):DryS (w.drewN k) M code at' fuel h ls:=by
 obtain⟨x,h1,h2⟩:=hd
 have hbk:=below_drewN w k
 exact⟨x,h1.far (fun j=>hbk.cell (p:=⟨M,j,none⟩) h1.lt) (fun j=>hbk.frozen (p:=⟨M,j,none⟩) h1.lt),obl h2 hbk⟩
theorem DryS.drew {w:World} {M at' fuel h:Nat} {code:Value} {ls:List Nat} (hd:DryS w M code at' fuel h ls):DryS w.drew M code at' fuel h ls:=by
 obtain⟨x,h1,h2⟩:=hd
 exact⟨x,h1.drew,h2.drew⟩
abbrev KeptTo (M:Nat) (w w':World):Prop:=Below M w w'
theorem KeptTo.set {M:Nat} {w w':World} (h:KeptTo M w w') (j:Nat) (v:Value):KeptTo M w (w'.setCell ⟨M,j,none⟩ v):=Below.setCell h (p:=⟨M,j,none⟩) nlr v
theorem kept_cell {M:Nat} {w w':World} (h:KeptTo M w w') {b j:Nat} (hb:b < M):w'.cell? ⟨b,j,none⟩=w.cell? ⟨b,j,none⟩:=Below.cell h (p:=⟨b,j,none⟩) hb
def Fn (w:World) (M:Nat) (x:List UInt8) (fv:Value):Prop :=
 (∃ B n,B < M∧fv = .func (.func 300) #[] #[.pointer (some ⟨B,0,none⟩)]∧NumAt w B n∧Sp.number x=some n)∨(∃ k,k < 25∧x=Sp.nms[k]!∧fv=wordFn k)
def CodeRow (w:World) (M g:Nat) (L:List (List UInt8)):Prop:=g < M∧∀ i (hi:i < L.length),∃ fv,w.cell? ⟨g,i * 2,none⟩=some fv∧Fn w M L[i] fv
def RPost (o:Option (Nat × List Nat)) (M:Nat) (code:Value) (u:TypeId) (p:Value) (w:World) (e:Ending) (w':World):Prop :=
 KeptTo M w w'∧match o with
  | some (h,ls)=>e = .returned (.tuple #[])∧∃ a f,DryS w' M code a f h ls
  | none=>e = .panicked [{ v := .iface u p,recovered:=false }]
def atM (M:Nat) (w:World):Nat:=match w.cell? ⟨M,1,none⟩ with
 | some v=>(intOf v).toNat
 | none=>0
theorem atM_of {w:World} {M:Nat} {n:Int} (h:w.cell? ⟨M,1,none⟩=some (.int .i64 n)):atM M w=n.toNat:=by
 unfold atM;rw[h];rfl
theorem dst_bd {x:List UInt8} {h h':Nat} {ls ls':List Nat} (hh:h≤16) (e:Sp.dst x h ls=some (h',ls')):h'≤16:=by
 unfold Sp.dst at e
 split at e
 ·split at e
  ·cases e
  ·injection e with e;injection e with e1 e2;omega
 ·split at e
  ·split at e
   ·split at e
    ·injection e with e;injection e with e1 e2;omega
    ·cases e
   ·cases e
  ·split at e
   ·cases e
   ·split at e
    ·injection e with e;injection e with e1 e2;omega
    ·cases e
theorem dst_len {x:List UInt8} {h h':Nat} {ls ls':List Nat} (hx:x=[93]→ls≠[]) (e:Sp.dst x h ls=some (h',ls')):(ls'.length:Int)=ls.length+Sp.ds x:=by
 unfold Sp.dst at e
 split at e
 ·rename_i c
  subst c
  split at e
  ·cases e
  ·injection e with e;injection e with e1 e2;subst e2;simp[Sp.ds]
 ·split at e
  ·rename_i c1 c2
   subst c2
   have hne:=hx rfl
   have hl:0 < ls.length:=List.length_pos_iff.2 hne
   split at e
   ·split at e
    ·injection e with e;injection e with e1 e2;subst e2;simp[Sp.ds];omega
    ·cases e
   ·cases e
  ·rename_i c1 c2
   rw[Sp.ds_none c1 c2]
   split at e
   ·cases e
   ·split at e
    ·injection e with e;injection e with e1 e2;subst e2;omega
    ·cases e
theorem dead_end {G:Prop} (P:Program) (w:World) (h:G):wpAny P .text #[] (fun _ _ _=>True) 0 #[] { tmps := #[],defers:=[] } w→G:=fun _=>h
theorem cfe {P : Program} {f : FuncId} {fn : Func} (hf : P.funcs[f]? = some fn) (hn : (fn.name == "runtime.NumGoroutine") = false) (hb : fn.body.isNone = false) (args : Array Value) (w : World) : (callFunc f args).run P w = .ok (.enter f args) w := by
 unfold callFunc
 have hn' : ¬ fn.name = "runtime.NumGoroutine" := by simpa using hn
 have hb':¬ fn.body=none:=by intro e;rw[e] at hb;cases hb
 simp[go_sem,hf,hn',hb',hb]
theorem words_enter:(k:Nat)→k < 25→∀ (args:Array Value) (w:World),(callFunc (wfn[k]!) args).run Tryz.prog w = .ok (.enter (wfn[k]!) args) w
 | 0,_=>cfe Tryz.func172 (by kernel_rfl) (by kernel_rfl)
 | 1,_=>cfe Tryz.func174 (by kernel_rfl) (by kernel_rfl)
 | 2,_=>cfe Tryz.func175 (by kernel_rfl) (by kernel_rfl)
 | 3,_=>cfe Tryz.func176 (by kernel_rfl) (by kernel_rfl)
 | 4,_=>cfe Tryz.func177 (by kernel_rfl) (by kernel_rfl)
 | 5,_=>cfe Tryz.func178 (by kernel_rfl) (by kernel_rfl)
 | 6,_=>cfe Tryz.func179 (by kernel_rfl) (by kernel_rfl)
 | 7,_=>cfe Tryz.func180 (by kernel_rfl) (by kernel_rfl)
 | 8,_=>cfe Tryz.func181 (by kernel_rfl) (by kernel_rfl)
 | 9,_=>cfe Tryz.func182 (by kernel_rfl) (by kernel_rfl)
 | 10,_=>cfe Tryz.func184 (by kernel_rfl) (by kernel_rfl)
 | 11,_=>cfe Tryz.func185 (by kernel_rfl) (by kernel_rfl)
 | 12,_=>cfe Tryz.func186 (by kernel_rfl) (by kernel_rfl)
 | 13,_=>cfe Tryz.func188 (by kernel_rfl) (by kernel_rfl)
 | 14,_=>cfe Tryz.func189 (by kernel_rfl) (by kernel_rfl)
 | 15,_=>cfe Tryz.func191 (by kernel_rfl) (by kernel_rfl)
 | 16,_=>cfe Tryz.func192 (by kernel_rfl) (by kernel_rfl)
 | 17,_=>cfe Tryz.func193 (by kernel_rfl) (by kernel_rfl)
 | 18,_=>cfe Tryz.func194 (by kernel_rfl) (by kernel_rfl)
 | 19,_=>cfe Tryz.func196 (by kernel_rfl) (by kernel_rfl)
 | 20,_=>cfe Tryz.func197 (by kernel_rfl) (by kernel_rfl)
 | 21,_=>cfe Tryz.func198 (by kernel_rfl) (by kernel_rfl)
 | 22,_=>cfe Tryz.func199 (by kernel_rfl) (by kernel_rfl)
 | 23,_=>cfe Tryz.func201 (by kernel_rfl) (by kernel_rfl)
 | 24,_=>cfe Tryz.func203 (by kernel_rfl) (by kernel_rfl)
 | n+25,h=>absurd h (by omega)
theorem Fn.enter {w:World} {M:Nat} {x:List UInt8} {F:Nat} {caps:Array Value} (h:Fn w M x (.func (.func F) #[] caps)) (args:Array Value) (W:World):(callFunc F args).run Tryz.prog W = .ok (.enter F args) W:=by
 rcases h with ⟨B,n,_,e,_⟩ | ⟨k,hk,_,e⟩
 ·injection e with e1 e2 e3
  injection e1 with e1
  subst e1
  exact cfe Tryz.func300 (by kernel_rfl) (by kernel_rfl) args W
 ·unfold wordFn at e
  injection e with e1 e2 e3
  injection e1 with e1
  subst e1
  exact words_enter k hk args W
theorem Fn.calls {w:World} {M:Nat} {x:List UInt8} {F:Nat} {caps:Array Value} (h:Fn w M x (.func (.func F) #[] caps)) {at' fuel hh:Nat} {code:Value} {ls:List Nat} {u:TypeId} {p:Value} {W:World} (hk:KeptTo M w W) (hd:DryS W M code at' fuel hh ls) (hv:DryEnv M hh u p W) (hl:ls.length≤10000) (hx:x=[93]→ls≠[]) :
  Calls Tryz.prog F (#[.pointer (some ⟨M,0,none⟩)]++caps) W (WPost (Sp.dst x hh ls) M at' fuel code u p W):=by
 rcases h with ⟨B,n,hB,e,hn,hnum⟩ | ⟨k,hk',hxk,e⟩
 ·injection e with e1 e2 e3
  injection e1 with e1
  subst e1 e3
  exact word_num hnum B M at' fuel hh code ls u p W hd hv ((kept_cell hk hB).trans hn.cell)
 ·unfold wordFn at e
  injection e with e1 e2 e3
  injection e1 with e1
  subst e1 e3 hxk
  exact word_all k hk' M at' fuel hh code ls u p W hd hv hl hx
structure RunInv (L:List (List UInt8)) (M:Nat) (code:Value) (w wr:World) (i h:Nat) (ls:List Nat):Prop where
 le:i≤L.length
 dry:DryS wr M code i (L.length - i) h ls
 run:Sp.drun L 0 []=Sp.drun (L.drop i) h ls
 fm:Sp.fmd true (L.drop i) ls.length=true
 len:ls.length≤i
 hh:h≤16
 kept:KeptTo M w wr
theorem run_any (L:List (List UInt8)) (M g cap:Nat) (u:TypeId) (p:Value) (w:World) (hl:L.length≤4000) (hd:DryS w M (.slice (some ⟨g,0,none⟩) L.length cap) 0 L.length 0 []) (hr:Hid (CodeRow w M g L)) (hf:Hid (Sp.fmd true L 0=true)) (hM:5 < M) (he:w.cell? ⟨5,0,none⟩=some (.iface u p)) :
  Calls Tryz.prog 125 #[.pointer (some ⟨M,0,none⟩)] w (RPost (Sp.drun L 0 []) M (.slice (some ⟨g,0,none⟩) L.length cap) u p w):=by
 generalize hO:RPost (Sp.drun L 0 []) M (.slice (some ⟨g,0,none⟩) L.length cap) u p w=O
 replace hO:=hde hO
 have HE:=hde he
 clear he
 go_enter Tryz.func125,Tryz.ntmps125
 go_wp2_with fail
 go_loopw [] (fun wr=>∃ (i h:Nat) (ls:List Nat),Hid (RunInv L M (.slice (some ⟨g,0,none⟩) L.length cap) w wr i h ls)) (fun wr=>L.length - atM M wr)
 case atStart=>exact⟨0,0,[],⟨Nat.zero_le _,hd,rfl,uh hf,Nat.le_refl _,by omega,Below.refl _ _⟩⟩
 case round =>
  obtain⟨i,h,ls,HI⟩:=hrel
  have hi:=(uh HI).le
  obtain⟨x,hx,hrow⟩:=(uh HI).dry
  have HROW:=hde hrow
  have e0:=hx.c0
  have e1:=hx.c1
  have e2:=hx.c2
  have f2:=hx.fz 2
  have HX:=hde hx
  clear hx hrow hd
  have g0:(0:Int)≤(i:Int):=Int.natCast_nonneg _
  by_cases c:i < L.length
  ·have c1:(i:Int) < (L.length:Int):=by omega
   obtain⟨q,hq,HQ⟩:∃ q,L.length - i=q+1∧Hid (L.length - i=q+1):=⟨L.length - i - 1,by omega,hde (by omega)⟩
   rw[hq] at e2
   have c2:((((q+1:Nat)):Int) == 0)=false:=beq_eq_false_iff_ne.2 (by omega)
   have c3:((q+1:Nat):Int) - 1=(q:Int):=by omega
   have c4:q≤4000:=by omega
   obtain⟨fv,hfv,hfn⟩:=(uh hr).2 i c
   have hgM:=(uh hr).1
   have e3:wr.cell? ⟨g,i * 2,none⟩=some fv:=(kept_cell (uh HI).kept hgM).trans hfv
   have hgm:M≠g:=by omega
   clear hq
   obtain⟨F,caps,rfl⟩:∃ F caps,fv = .func (.func F) #[] caps:=by
    rcases hfn with ⟨B,n,_,rfl,_⟩ | ⟨k,_,_,rfl⟩
    ·exact⟨_,_,rfl⟩
    ·exact⟨_,_,rfl⟩
   have HFN:=hde hfn
   have hcf:=hfn.enter
   clear hfn hfv
   have HC:Hid (∀ k,Calls Tryz.prog F (#[.pointer (some ⟨M,0,none⟩)]++caps) (((wr.drewN k).setCell ⟨M,2,none⟩ (.int .i64 (q:Int))).drew) (WPost (Sp.dst L[i] h ls) M i q (.slice (some ⟨g,0,none⟩) L.length cap) u p (((wr.drewN k).setCell ⟨M,2,none⟩ (.int .i64 (q:Int))).drew))):=by
    show ∀ k,_
    intro k
    have hI:=uh HI
    have hbk:=below_drewN wr k
    have hdk:DryS (wr.drewN k) M (.slice (some ⟨g,0,none⟩) L.length cap) i (L.length - i) h ls:=hI.dry.drewN k
    have hfm:=hI.fm
    rw[List.drop_eq_getElem_cons c] at hfm
    refine(uh HFN).calls (KeptTo.set (hI.kept.trans (hbk.mono (Nat.le_of_lt (uh HX).lt))) _ _).drew ((hdk.fue q).drew) ⟨by omega,?_,hI.hh⟩ (by have:=hI.len;omega) ?_
    ·rw[← uh HE]
     exact kept_cell ((KeptTo.set (hI.kept.trans (hbk.mono (Nat.le_of_lt (uh HX).lt))) _ _).drew) hM
    ·intro h93 he
     obtain⟨_,h2,_⟩:=Sp.fmd_cons hfm
     rw[h93,he,show Sp.ds [93] = -1 by decide] at h2
     simp at h2
   have hdr:Hid (∀ h' ls',Sp.dst L[i] h ls=some (h',ls')→Sp.drun (L.drop i) h ls=Sp.drun (L.drop (i+1)) h' ls'):=by
    show ∀ h' ls',_
    intro h' ls' e
    rw[List.drop_eq_getElem_cons c,Sp.drun,e]
   have hdn:Hid (Sp.dst L[i] h ls=none→Sp.drun (L.drop i) h ls=none):=by
    show _→_
    intro e
    rw[List.drop_eq_getElem_cons c,Sp.drun,e]
   cases hD:Sp.dst L[i] h ls with
   | none =>
    rw[hD] at HC
    have HP:Hid (∀ k w1,KeptTo M (((wr.drewN k).setCell ⟨M,2,none⟩ (.int .i64 (q:Int))).drew) w1→O (.panicked [{ v := .iface u p,recovered:=false }]) w1):=by
     show ∀ k w1,_
     intro k w1 hk
     have hI:=uh HI
     have hbk:=below_drewN wr k
     rw[← uh hO,hI.run,uh hdn hD]
     exact⟨((KeptTo.set (hI.kept.trans (hbk.mono (Nat.le_of_lt (uh HX).lt))) _ _).drew).trans hk,rfl⟩
    clear hD
    go_wp2_with fail
    go_quiet (fail)
    go_wp2_with fail
    go_region_with (refine(uh HC _).mono ?_;rintro e w1 ⟨hk1,rfl⟩;refine dead_end Tryz.prog w1 ⟨rfl,uh HP _ w1 hk1⟩ ?_)
    all_goals trivial
   | some hl' =>
    obtain⟨h',ls'⟩:=hl'
    rw[hD] at HC
    have HN:Hid (∀ k w1,KeptTo M (((wr.drewN k).setCell ⟨M,2,none⟩ (.int .i64 (q:Int))).drew) w1→DryS w1 M (.slice (some ⟨g,0,none⟩) L.length cap) i q h' ls'→RunInv L M (.slice (some ⟨g,0,none⟩) L.length cap) w (w1.setCell ⟨M,1,none⟩ (.int .i64 ((i+1:Nat):Int))) (i+1) h' ls'):=by
     show ∀ k w1,_
     intro k w1 hk hd
     have hI:=uh HI
     have hbk:=below_drewN wr k
     have hQ:=uh HQ
     have hfm:=hI.fm
     rw[List.drop_eq_getElem_cons c] at hfm
     obtain⟨_,h2,h3⟩:=Sp.fmd_cons hfm
     have hx93:L[i]=[93]→ls≠[]:=by
      intro h93 he
      rw[h93,he,show Sp.ds [93] = -1 by decide] at h2
      simp at h2
     have hln:=dst_len hx93 hD
     have hds:=Sp.ds_bd L[i]
     have hlen:=hI.len
     refine⟨by omega,?_,hI.run.trans (uh hdr h' ls' hD),by rw[hln];exact h3,by omega,dst_bd hI.hh hD,KeptTo.set (((KeptTo.set (hI.kept.trans (hbk.mono (Nat.le_of_lt (uh HX).lt))) _ _).drew).trans hk) _ _⟩
     rw[show L.length - (i+1)=q by omega]
     exact hd.att (i+1)
    clear hD
    go_wp2_with fail
    go_quiet (fail)
    go_wp2_with fail
    go_region_with (refine(uh HC _).mono ?_;rintro e w1 ⟨hk1,rfl,hd1⟩)
    all_goals
     have HI2:Hid (RunInv L M (.slice (some ⟨g,0,none⟩) L.length cap) w (w1.setCell ⟨M,1,none⟩ (.int .i64 ((i+1:Nat):Int))) (i+1) h' ls'):=uh HN _ w1 hk1 hd1
     obtain⟨x1,hx1,_⟩:=hd1
     have j1:=hx1.c1
     have j2:=hx1.fz 1
     have j3:wrap64 ((i:Int)+1)=((i+1:Nat):Int):=by unfold wrap64;omega
     clear hx1 hk1
     go_wp2
     go_roundw
     case rel=>exact⟨i+1,h',ls',HI2⟩
     case measure =>
      have a1:=atM_of e1
      have a2:=atM_of (World.cell?_setCell_same w1 ⟨M,1,none⟩ (.int .i64 ((i:Int)+1)) j1)
      rw[a1,a2]
      omega
  ·have c1:¬ (i:Int) < (L.length:Int):=by omega
   have ei:i=L.length:=by omega
   go_wp2_with fail
   go_quiet (fail)
   go_wp2
   refine bodyPost_end (results_none rfl _ _ _) rfl ?_
   have hI:=uh HI
   rw[← uh hO,hI.run,ei,List.drop_of_length_le nlr]
   exact⟨hI.kept.trans ((below_drewN wr nq).mono (Nat.le_of_lt (uh HX).lt)),rfl,_,_,hI.dry.drewN nq⟩
namespace Sp
def rst (x:List UInt8) (i:Nat) (ms op:List Nat):Option (List Nat × List Nat):=
 if x=[91] then some (ms++[0],op++[i])
 else if x=[93] then (match op.getLast? with | some l=>some (((ms++[0]).set i l).set l i,op.dropLast) | none=>none)
 else some (ms++[0],op)
def rdTo (L:List (List UInt8)):Nat→Option (List Nat × List Nat)
 | 0=>some ([],[])
 | i+1=>match rdTo L i with
  | none=>none
  | some (ms,op)=>rst (L.getD i []) i ms op
theorem rst_len {x:List UInt8} {i:Nat} {ms op ms' op':List Nat} (h:rst x i ms op=some (ms',op')):ms'.length=ms.length+1∧(op'.length:Int)=op.length+ds x:=by
 unfold rst at h
 split at h
 ·rename_i c
  subst c
  injection h with h;injection h with h1 h2;subst h1 h2;simp[ds]
 ·split at h
  ·rename_i c1 c2
   subst c2
   split at h
   ·rename_i l hl
    injection h with h;injection h with h1 h2;subst h1 h2
    have:op≠[]:=by rintro rfl;cases hl
    have:=List.length_pos_iff.2 this
    simp[ds];omega
   ·cases h
  ·rename_i c1 c2
   injection h with h;injection h with h1 h2;subst h1 h2
   rw[ds_none c1 c2];simp
end Sp
def cz:List Value→List Nat→List Value
 | f :: fs,m :: ms=>f :: .int .i64 m :: cz fs ms
 | _,_=>[]
theorem cz_app:∀ (fs:List Value) (ms:List Nat) (f:Value) (m:Nat),fs.length=ms.length→cz (fs++[f]) (ms++[m])=cz fs ms++[f,.int .i64 m]:=by
 intro fs
 induction fs with
 | nil=>intro ms f m h;cases ms with
  | nil=>rfl
  | cons a b=>cases h
 | cons f' fs ih =>
  intro ms f m h
  cases ms with
  | nil=>cases h
  | cons m' ms=>simp only[List.cons_append,cz];rw[ih ms f m (by simpa using h)]
theorem cz_set:∀ (fs:List Value) (ms:List Nat) (j m:Nat),fs.length=ms.length→(cz fs ms).set (j * 2+1) (.int .i64 m)=cz fs (ms.set j m):=by
 intro fs
 induction fs with
 | nil=>intro ms j m h;cases ms with
  | nil=>rfl
  | cons a b=>cases h
 | cons f fs ih =>
  intro ms j m h
  cases ms with
  | nil=>cases h
  | cons m' ms =>
   cases j with
   | zero=>simp[cz]
   | succ j =>
    rw[show (j+1) * 2+1=(j * 2+1)+1+1 by omega]
    simp only[cz,List.set_cons_succ]
    rw[ih ms j m (by simpa using h)]
theorem cz_fn:∀ (fs:List Value) (ms:List Nat) (j:Nat),fs.length=ms.length→(cz fs ms)[j * 2]? = fs[j]?:=by
 intro fs
 induction fs with
 | nil=>intro ms j h;cases ms <;> simp[cz]
 | cons f fs ih =>
  intro ms j h
  cases ms with
  | nil=>cases h
  | cons m ms =>
   cases j with
   | zero=>simp[cz]
   | succ j =>
    rw[show (j+1) * 2=(j * 2)+1+1 by omega]
    simp only[cz,List.getElem?_cons_succ]
    exact ih ms j (by simpa using h)
theorem cz_mate:∀ (fs:List Value) (ms:List Nat) (j:Nat),fs.length=ms.length→(cz fs ms)[j * 2+1]? = (ms[j]?).map (fun m=>Value.int .i64 m):=by
 intro fs
 induction fs with
 | nil=>intro ms j h;cases ms with
  | nil=>simp[cz]
  | cons a b=>cases h
 | cons f fs ih =>
  intro ms j h
  cases ms with
  | nil=>cases h
  | cons m ms =>
   cases j with
   | zero=>simp[cz]
   | succ j =>
    rw[show (j+1) * 2+1=(j * 2+1)+1+1 by omega]
    simp only[cz,List.getElem?_cons_succ]
    exact ih ms j (by simpa using h)
def FindAny (x:List UInt8) (w:World) (e:Ending) (w':World):Prop :=
 Below w.heap.size w w'∧((∃ (nm:ByteArray) (nw:Bool) (F:Nat) (caps:Array Value),e = .returned (.tuple #[.agg #[.string nm,.bool nw,.func (.func F) #[] caps],.bool true])∧Fn w' w'.heap.size x (.func (.func F) #[] caps)∧Sp.tk true x≠none∧(nw=true→Sp.tk false x=none)∧(nw=false→Sp.tk false x≠none))∨(Sp.tk true x=none∧Sp.tk false x=none∧e = .returned (.tuple #[noWord,.bool false])))
theorem findWord_any (s:ByteArray) (b:Nat) (w:World) (hs:s.size≤4000) (hW:WordsAt b w):Calls Tryz.prog 253 #[.string s,.slice (some ⟨b,0,none⟩) 25 25] w (FindAny s.data.toList w):=by
 cases hn:Sp.number s.data.toList with
 | some n =>
  refine(findWord_num s _ w hs n hn).mono ?_
  rintro e w' ⟨B,h1,h2,rfl,h3⟩
  have h4:B < w'.heap.size:=(Array.getElem?_eq_some_iff.1 h2).1
  refine⟨h3,Or.inl ⟨_,_,_,_,rfl,Or.inl ⟨B,n,h4,rfl,h2,hn⟩,?_,?_,?_⟩⟩
  ·rw[Sp.tk_num hn];intro e;cases e
  ·intro e;cases e
  ·intro _;rw[Sp.tk_num hn];intro e;cases e
 | none =>
  refine(findWord_else s b w hs hW hn).mono ?_
  rintro e w' ⟨h3,⟨k,hk,hx,rfl⟩ | ⟨hx,rfl⟩⟩
  ·refine⟨h3,Or.inl ⟨_,_,_,_,rfl,Or.inr ⟨k,hk,hx.symm,rfl⟩,?_,?_,?_⟩⟩
   ·rw[← hx,Sp.tk_true k hk];intro e;cases e
   ·intro h8
    rw[← hx,Sp.tk_false k hk]
    rw[if_pos (by simpa [wordWt] using h8)]
   ·intro h8
    rw[← hx,Sp.tk_false k hk]
    rw[if_neg (by simpa [wordWt] using h8)]
    intro e;cases e
  ·exact⟨h3,Or.inr ⟨Sp.tk_none hn hx,Sp.tk_none hn hx,rfl⟩⟩
section
variable {P:Program}
end
end Go.Proofs.YteflnddphpjahaaGreatDoor
