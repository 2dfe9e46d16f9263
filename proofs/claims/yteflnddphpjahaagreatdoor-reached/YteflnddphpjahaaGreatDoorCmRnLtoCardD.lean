import Derived.Test.YteflnddphpjahaaGreatDoorCmRnEtoRnK
import Derived.Test.YteflnddphpjahaaGreatDoorCmCqRtoCqM
import Derived.Test.YteflnddphpjahaaGreatDoorCmCardBtoRnD
import Derived.LaidLaws
set_option linter.unusedVariables false
set_option linter.unusedSimpArgs false
set_option maxRecDepth 100000
set_option maxHeartbeats 16000000
namespace Go.Proofs.YteflnddphpjahaaGreatDoor
open Go.RowKit
def hb (L:List (List UInt8)) (a:Nat):Nat:=match Sp.drun (L.take (a+1)) 0 [] with
 | some (h,_)=>h
 | none=>0
def lpz (L:List (List UInt8)) (lp:List (Int × Nat)):List (Int × Nat):=(lp.map fun q=>(q.1,hb L q.2)).reverse
theorem lpz_cons (L:List (List UInt8)) (k:Int) (a:Nat) (r:List (Int × Nat)):lpz L ((k,a) :: r)=lpz L r++[(k,hb L a)]:=by simp[lpz]
theorem lpz_len (L:List (List UInt8)) (lp:List (Int × Nat)):(lpz L lp).length=lp.length:=by simp[lpz]
def MacS (w:World) (M:Nat) (code:Value) (L:List (List UInt8)) (E:Sp.Ev) (at' fuel:Nat) (T:List Int) (lp:List (Int × Nat)):Prop :=
 ∃ x,Mac w M code at' fuel E T x∧w.ownsRow (M+1) 379 2 x lp.length (flat2 (lpz L lp))
def WSPost (o:Option Sp.Ms) (M:Nat) (code:Value) (L:List (List UInt8)) (E:Sp.Ev) (u:TypeId) (p:Value) (w:World) (e:Ending) (w':World):Prop :=
 Below M w w'∧match o with
  | some t=>e = .returned (.tuple #[])∧∃ a,a+1=t.at'∧MacS w' M code L E a t.fuel t.T t.lp
  | none=>e = .panicked [{ v := .iface u p,recovered:=false }]
theorem step_word {L:List (List UInt8)} {E:Sp.Ev} {s:Sp.Ms} {x:List UInt8} (hx:L.getD s.at' []=x) (hf:s.fuel≠0) (h1:x≠[91]) (h2:x≠[93]):Sp.mstep L E s=(Sp.weff E x s.T).map fun T=>⟨s.at'+1,s.fuel - 1,T,s.lp⟩:=by
 unfold Sp.mstep
 rw[if_neg hf,hx,if_neg h1,if_neg h2]
theorem post_step {L:List (List UInt8)} {E:Sp.Ev} {s:Sp.Ms} {x:List UInt8} {M:Nat} {code l:Value} {u:TypeId} {p:Value} {w w':World} {e:Ending} (hx:L.getD s.at' []=x) (hf:s.fuel≠0) (h1:x≠[91]) (h2:x≠[93])
  (hr:w.ownsRow (M+1) 379 2 l s.lp.length (flat2 (lpz L s.lp))) (hp:MPost (Sp.weff E x s.T) M s.at' (s.fuel - 1) E code l u p w e w'):WSPost (Sp.mstep L E s) M code L E u p w e w':=by
 obtain⟨ho,hq⟩:=hp
 rw[step_word hx hf h1 h2]
 refine⟨ho.below,?_⟩
 cases hw:Sp.weff E x s.T with
 | none=>rw[hw] at hq;exact hq
 | some T =>
  rw[hw] at hq
  exact⟨hq.1,s.at',rfl,l,hq.2,ho.own hr⟩
theorem rd_oplen (L:List (List UInt8)):∀ (k:Nat) (m o:List Nat),Sp.rdTo L k=some (m,o)→o.length≤k:=by
 intro k
 induction k with
 | zero=>intro m' o' h;simp[Sp.rdTo] at h;obtain⟨_,rfl⟩:=h;exact Nat.le_refl _
 | succ k ih =>
  intro m' o' h
  simp only[Sp.rdTo] at h
  split at h
  ·cases h
  ·rename_i m2 o2 h2
   have h3:=(Sp.rst_len h).2
   have h4:=Sp.ds_bd (L.getD k [])
   have h5:=ih _ _ h2
   omega
theorem hb_of {L:List (List UInt8)} {a h:Nat} {ls:List Nat} (e:Sp.drun (L.take (a+1)) 0 []=some (h,ls)):hb L a=h:=by unfold hb;rw[e]
theorem word_step {L:List (List UInt8)} {MS:List Nat} {E:Sp.Ev} {r:Nat × List Nat} (hfm:Sp.fmd true L 0=true) (hk:Sp.drun L 0 []=some r) (hMS:Sp.rdTo L L.length=some (MS,[])) {s:Sp.Ms} (hH:Sp.HInv L s) (hP:Sp.PInv L s) (hV:Sp.VInv s) (hi:s.at' < L.length) (hf:s.fuel≠0) (hlen:L.length≤4000)
  {M g cap:Nat} {u:TypeId} {p:Value} {w0 w:World} {F:Nat} {caps:Array Value} (hF:Fn w0 M L[s.at'] (.func (.func F) #[] caps)) (hb:Below M w0 w) (hg:g < M) (hmate:w.cell? ⟨g,s.at' * 2+1,none⟩=some (.int .i64 ((MS.getD s.at' 0:Nat):Int)))
  (hd:MacS w M (.slice (some ⟨g,0,none⟩) L.length cap) L E s.at' (s.fuel - 1) s.T s.lp) (hv:MacEnv M u p w) :
  Calls Tryz.prog F (#[.pointer (some ⟨M,0,none⟩)]++caps) w (WSPost (Sp.mstep L E s) M (.slice (some ⟨g,0,none⟩) L.length cap) L E u p w):=by
 obtain⟨l,hm,hr⟩:=hd
 obtain⟨h,ls,e,hT,hl⟩:=hH.ex
 obtain⟨h',ls',d,e'⟩:=Sp.at_word hk hi e
 have hgd:=Sp.getD_of hi
 have h16:=(Sp.drn_fmd hfm _ _ _ (by omega) e).2
 obtain⟨ms,er⟩:=hP.at'
 have hlpn:s.lp.length≤4000:=by
  have h1:=rd_oplen L _ _ _ er
  simp at h1
  omega
 rcases hF with ⟨B,n,hB,ef,hn,hnum⟩ | ⟨k,hk25,hxk,ef⟩
 ·injection ef with e1 e2 e3
  injection e1 with e1
  subst e1 e3
  have h1:L[s.at']≠[91]:=by intro hc;rw[hc,show Sp.number [91]=none by decide] at hnum;cases hnum
  have h2:L[s.at']≠[93]:=by intro hc;rw[hc,show Sp.number [93]=none by decide] at hnum;cases hnum
  obtain⟨n',m',ht,hn',hm',_⟩:=Sp.dst_word h1 h2 d
  rw[Sp.tk_num hnum] at ht
  injection ht with ht;injection ht with t1 t2;subst t1 t2
  refine(mdo_num hnum B M s.at' (s.fuel - 1) E s.T _ l u p w hm (by omega) ((kept_cell hb hB).trans hn.cell)).mono fun e w' hp=>?_
  exact post_step hgd hf h1 h2 hr hp
 ·unfold wordFn at ef
  injection ef with e1 e2 e3
  injection e1 with e1
  subst e1 e3
  by_cases hk23:k < 23
  ·have hne:∀ j,j < 23→Sp.nms[j]!≠[91]∧Sp.nms[j]!≠[93]:=by decide
   have h1:L[s.at']≠[91]:=by rw[hxk];exact(hne k hk23).1
   have h2:L[s.at']≠[93]:=by rw[hxk];exact(hne k hk23).2
   obtain⟨n',m',ht,hn',hm',_⟩:=Sp.dst_word h1 h2 d
   rw[hxk,Sp.tk_true k hk25] at ht
   injection ht with ht
   have hmd:=mword k hk23 M s.at' (s.fuel - 1) E s.T (.slice (some ⟨g,0,none⟩) L.length cap) l u p w hm hv (by rw[ht];simp only;omega) (by rw[ht];simp only;omega)
   refine hmd.mono fun e w' hp=>?_
   rw[← hxk] at hp
   exact post_step hgd hf h1 h2 hr hp
  ·by_cases hk24:k=23
   ·subst hk24
    have hx:L[s.at']=[91]:=hxk
    rw[hx] at d
    obtain⟨hne,d⟩:=Sp.dst_91 d
    injection d with d1 d2
    subst d1 d2
    obtain⟨n,T,hTT⟩:=one_of (T:=s.T) (by omega)
    rw[hTT] at hm hT
    simp only[List.length_cons] at hT
    by_cases hn1:n < 1
    ·obtain⟨q,ms',ms2,q1,q2,q3,q4,q5⟩:=Sp.skip_rd hfm hk hi hx e er
     have hq3:L[q]=[93]:=by rw[← Sp.getD_of q2];exact q3
     obtain⟨_,hmq⟩:=Sp.mate_shut hMS q2 hq3 q4
     rw[hmq] at hmate
     have hst:Sp.mstep L E s=some ⟨q+1,s.fuel - 1,T,s.lp⟩:=by
      unfold Sp.mstep
      rw[if_neg hf,hgd,if_pos hx,hTT]
      simp only
      rw[if_pos hn1,q1];rfl
     rw[hst]
     refine(do_24 _ M w (mbegin0 n M s.at' (s.fuel - 1) g L.length cap q E T l w hm hn1 hi (by omega) hmate) (fun e w' hh=>Or.inl hh.1)).mono ?_
     rintro e w' ⟨rfl,hm',ho'⟩
     exact⟨ho'.below,rfl,q,rfl,l,hm',ho'.own hr⟩
    ·have hst:Sp.mstep L E s=some ⟨s.at'+1,s.fuel - 1,T,(n,s.at') :: s.lp⟩:=by
      unfold Sp.mstep
      rw[if_neg hf,hgd,if_pos hx,hTT]
      simp only
      rw[if_neg hn1]
     rw[hst]
     refine(do_24 _ M w (mbegin1 n M s.at' (s.fuel - 1) s.lp.length E T _ l _ w hm hn1 (by omega) hr) (fun e w' hh=>Or.inl hh.1)).mono ?_
     rintro e w' ⟨rfl,x',hm',hr',hb'⟩
     refine⟨hb',rfl,s.at',rfl,x',hm',?_⟩
     rw[lpz_cons,flat2_app,hb_of e']
     have:T.length=h - 1:=by omega
     rw[this] at hr'
     exact hr'
   ·have hk5:k=24:=by omega
    subst hk5
    have hx:L[s.at']=[93]:=hxk
    rw[hx] at d
    cases hlp:s.lp with
    | nil =>
     rw[hlp] at hl
     have hl:ls=[]:=hl
     subst hl
     exfalso
     unfold Sp.dst at d
     rw[if_neg (by decide),if_pos rfl] at d
     cases d
    | cons q r =>
     obtain⟨k0,a⟩:=q
     rw[hlp] at hl hr
     obtain⟨k1,a1,a2,h0,ls0,rfl,e0,hl0⟩:=hl
     obtain⟨hm0,d⟩:=Sp.dst_93 d
     subst hm0
     rw[lpz_cons,flat2_app,hb_of e0,← hT] at hr
     simp only[List.length_cons] at hr
     obtain⟨gl,cl,rfl⟩:∃ g cap,l = .slice (some ⟨g,0,none⟩) (r.length+1) cap:=by
      rcases hr.2 with ⟨_,hn⟩ | ⟨g,cap,cur,hv,_⟩
      ·omega
      ·exact⟨g,cap,hv⟩
     have hfl:(flat2 (lpz L r)).length=r.length * 2:=by rw[flat2_len,lpz_len]
     have hrl:r.length≤4000:=by rw[hlp] at hlpn;simp at hlpn;omega
     have hkb:=hV.lp (k0,a) (by rw[hlp];exact List.mem_cons_self ..)
     rw[hlp] at er
     obtain⟨hma,_⟩:=Sp.mate_shut hMS hi hx (by simpa using er)
     rw[hma] at hmate
     by_cases hk1:1 < k0
     ·have hst:Sp.mstep L E s=some ⟨a+1,s.fuel - 1,s.T,(k0 - 1,a) :: r⟩:=by
       unfold Sp.mstep
       rw[if_neg hf,hgd,hx,if_neg (by decide),if_pos rfl,hlp]
       simp only
       rw[if_pos hk1]
      rw[hst]
      refine(do_25 _ M w (mend1 k0 M s.at' (s.fuel - 1) r.length gl cl g L.length cap a E s.T _ w hm (by omega) hr hfl hk1 hkb.2 hi hg hmate) (fun e w' hh=>Or.inl hh.1)).mono ?_
      rintro e w' ⟨rfl,hm',hr',hb'⟩
      refine⟨hb',rfl,a,rfl,_,hm',?_⟩
      rw[lpz_cons,flat2_app,hb_of e0,← hT]
      exact hr'
     ·have hk0:k0=1:=by have:=hkb.1;simp only at this;omega
      have hst:Sp.mstep L E s=some ⟨s.at'+1,s.fuel - 1,s.T,r⟩:=by
       unfold Sp.mstep
       rw[if_neg hf,hgd,hx,if_neg (by decide),if_pos rfl,hlp]
       simp only
       rw[if_neg hk1]
      rw[hst]
      refine(do_25 _ M w (mend0 k0 M s.at' (s.fuel - 1) r.length gl cl E s.T _ _ w hm (by omega) hr hfl hk0) (fun e w' hh=>Or.inl hh.1)).mono ?_
      rintro e w' ⟨rfl,hm',hr',hb'⟩
      exact⟨hb',rfl,s.at',rfl,_,hm',hr'⟩
def MRPost (o:Option Sp.Ms) (M:Nat) (code:Value) (L:List (List UInt8)) (E:Sp.Ev) (u:TypeId) (p:Value) (uf:TypeId) (pf:Value) (w:World) (e:Ending) (w':World):Prop :=
 Below M w w'∧match o with
  | some t=>e = .returned (.tuple #[])∧MacS w' M code L E t.at' t.fuel t.T t.lp
  | none=>e = .panicked [{ v := .iface u p,recovered:=false }]∨e = .panicked [{ v := .iface uf pf,recovered:=false }]
structure CodeM (w:World) (M g:Nat) (L:List (List UInt8)) (MS:List Nat):Prop where
 fm:Sp.fmd true L 0=true
 keeps:∃ r,Sp.drun L 0 []=some r
 rd:Sp.rdTo L L.length=some (MS,[])
 len:L.length≤4000
 lt:g < M
 fn:∀ i (hi:i < L.length),∃ F caps,w.cell? ⟨g,i * 2,none⟩=some (.func (.func F) #[] caps)∧Fn w M L[i] (.func (.func F) #[] caps)
 mate:∀ i,i < L.length→w.cell? ⟨g,i * 2+1,none⟩=some (.int .i64 ((MS.getD i 0:Nat):Int))
structure MInv (L:List (List UInt8)) (E:Sp.Ev) (M:Nat) (code:Value) (w wr:World) (s0 s:Sp.Ms):Prop where
 hi:Sp.HInv L s
 pi:Sp.PInv L s
 vi:Sp.VInv s
 mac:MacS wr M code L E s.at' s.fuel s.T s.lp
 run:Sp.mrun L E (s0.fuel+1) s0=Sp.mrun L E (s.fuel+1) s
 kept:Below M w wr
 fu:s.fuel≤200
def fuM (M:Nat) (w:World):Nat:=match w.cell? ⟨M,2,none⟩ with
 | some v=>(intOf v).toNat
 | none=>0
theorem fuM_of {w:World} {M:Nat} {n:Int} (h:w.cell? ⟨M,2,none⟩=some (.int .i64 n)):fuM M w=n.toNat:=by
 unfold fuM;rw[h];rfl
theorem MacS.fue {w:World} {M:Nat} {code:Value} {L:List (List UInt8)} {E:Sp.Ev} {at' fuel:Nat} {T:List Int} {lp:List (Int × Nat)} (h:MacS w M code L E at' fuel T lp) (a:Nat):MacS (w.setCell ⟨M,2,none⟩ (.int .i64 a)) M code L E at' a T lp:=by
 obtain⟨x,h1,h2⟩:=h
 exact⟨x,h1.fue a,((Only.refl M w).set _ _).own h2⟩
theorem MacS.att {w:World} {M:Nat} {code:Value} {L:List (List UInt8)} {E:Sp.Ev} {at' fuel:Nat} {T:List Int} {lp:List (Int × Nat)} (h:MacS w M code L E at' fuel T lp) (a:Nat):MacS (w.setCell ⟨M,1,none⟩ (.int .i64 a)) M code L E a fuel T lp:=by
 obtain⟨x,h1,h2⟩:=h
 exact⟨x,h1.att a,((Only.refl M w).set _ _).own h2⟩
theorem MacS.drew {w:World} {M:Nat} {code:Value} {L:List (List UInt8)} {E:Sp.Ev} {at' fuel:Nat} {T:List Int} {lp:List (Int × Nat)} (h:MacS w M code L E at' fuel T lp):MacS w.drew M code L E at' fuel T lp:=by
 obtain⟨x,h1,h2⟩:=h
 exact⟨x,h1.drew,h2.drew⟩
theorem MacS.drewN {w:World} {M:Nat} {code:Value} {L:List (List UInt8)} {E:Sp.Ev} {at' fuel:Nat} {T:List Int} {lp:List (Int × Nat)} (h:MacS w M code L E at' fuel T lp) (n:Nat):MacS (w.drewN n) M code L E at' fuel T lp:=by
 obtain⟨x,h1,h2⟩:=h
 exact⟨x,h1.drewN n,obl h2 (below_drewN w n)⟩
theorem num_i64:∀ x n,Sp.number x=some n→Sp.i64 n:=fun x n h=>by
 have:=Sp.number_bd h
 unfold Sp.i64;omega
theorem mrun_next {L:List (List UInt8)} {E:Sp.Ev} {s t:Sp.Ms} (hi:s.at' < L.length) (h:Sp.mstep L E s=some t):Sp.mrun L E (s.fuel+1) s=Sp.mrun L E (t.fuel+1) t:=by
 have hf:=Sp.mstep_fuel h
 rw[Sp.mrun,if_neg (by omega),h]
 simp only
 exact Sp.mrun_gas _ t (by omega) _ (by omega)
theorem mrun_fail {L:List (List UInt8)} {E:Sp.Ev} {s:Sp.Ms} (hi:s.at' < L.length) (h:Sp.mstep L E s=none):Sp.mrun L E (s.fuel+1) s=none:=by
 rw[Sp.mrun,if_neg (by omega),h]
theorem mrun_end {L:List (List UInt8)} {E:Sp.Ev} {s:Sp.Ms} (hi:L.length≤s.at'):Sp.mrun L E (s.fuel+1) s=some s:=by
 rw[Sp.mrun,if_pos hi]
theorem mrun_any (L:List (List UInt8)) (MS:List Nat) (E:Sp.Ev) (hE:Sp.EvOk E) (M g cap:Nat) (u:TypeId) (p:Value) (uf:TypeId) (pf:Value) (s0:Sp.Ms) (w:World) (hc:CodeM w M g L MS) (h0:MInv L E M (.slice (some ⟨g,0,none⟩) L.length cap) w w s0 s0)
  (hM:1 < M) (he:w.cell? ⟨1,0,none⟩=some (.iface u p)) (hM2:2 < M) (he2:w.cell? ⟨2,0,none⟩=some (.iface uf pf)) :
  Calls Tryz.prog 125 #[.pointer (some ⟨M,0,none⟩)] w (MRPost (Sp.mrun L E (s0.fuel+1) s0) M (.slice (some ⟨g,0,none⟩) L.length cap) L E u p uf pf w):=by
 generalize hO:MRPost (Sp.mrun L E (s0.fuel+1) s0) M (.slice (some ⟨g,0,none⟩) L.length cap) L E u p uf pf w=O
 replace hO:=hde hO
 have HEE:=hde he
 have HE2:=hde he2
 have HCM:=hde hc
 have H0:=hde h0
 have hl:=hc.len
 clear he he2 hc h0
 go_enter Tryz.func125,Tryz.ntmps125
 go_wp2_with fail
 go_loopw [] (fun wr=>∃ s:Sp.Ms,Hid (MInv L E M (.slice (some ⟨g,0,none⟩) L.length cap) w wr s0 s)) (fun wr=>fuM M wr)
 case atStart=>exact⟨s0,H0⟩
 case round =>
  obtain⟨s,HI⟩:=hrel
  clear H0
  have hile:=(uh HI).hi.le
  have hfu:=(uh HI).fu
  obtain⟨x,hx,hrow⟩:=(uh HI).mac
  have HX:=hde hx
  have e0:=hx.c0
  have e1:=hx.c1
  have e2:=hx.c2
  have f2:=hx.fz 2
  clear hx hrow
  have g0:(0:Int)≤(s.at':Int):=Int.natCast_nonneg _
  by_cases c:s.at' < L.length
  ·have c1:(s.at':Int) < (L.length:Int):=by omega
   by_cases hf0:s.fuel=0
   ·have c2:((s.fuel:Int) == 0)=true:=by rw[hf0];rfl
    have he3:wr.cell? ⟨2,0,none⟩=some (.iface uf pf):=(kept_cell (uh HI).kept hM2).trans (uh HE2)
    have HP:Hid (∀ n,O (.panicked [{ v := .iface uf pf,recovered:=false }]) (wr.drewN n)):=by
     show ∀ n,_
     intro n
     have hI:=uh HI
     rw[← uh hO,hI.run,mrun_fail c (by unfold Sp.mstep;rw[if_pos hf0])]
     exact⟨hI.kept.trans ((below_drewN wr n).mono (Nat.le_of_lt (uh HX).lt)),Or.inr rfl⟩
    clear hf0
    go_wp2_with fail
    go_quiet (fail)
    go_wp2
    exact⟨rfl,uh HP _⟩
   ·obtain⟨q,hq,HQ⟩:∃ q,s.fuel=q+1∧Hid (s.fuel=q+1):=⟨s.fuel - 1,by omega,hde (by omega)⟩
    rw[hq] at e2
    have c2:((((q+1:Nat)):Int) == 0)=false:=beq_eq_false_iff_ne.2 (by omega)
    have c3:((q+1:Nat):Int) - 1=(q:Int):=by omega
    have c4:q≤4000:=by omega
    obtain⟨F,caps,hfv,hfn⟩:=(uh HCM).fn s.at' c
    have hgM:=(uh HCM).lt
    have e3:wr.cell? ⟨g,s.at' * 2,none⟩=some (.func (.func F) #[] caps):=(kept_cell (uh HI).kept hgM).trans hfv
    have hgm:M≠g:=by omega
    have hcf:=hfn.enter
    have HFN:=hde hfn
    clear hq hfn hfv
    have HW:Hid (∀ k,Below M w (((wr.drewN k).setCell ⟨M,2,none⟩ (.int .i64 (q:Int))).drew)∧Calls Tryz.prog F (#[.pointer (some ⟨M,0,none⟩)]++caps) (((wr.drewN k).setCell ⟨M,2,none⟩ (.int .i64 (q:Int))).drew) (WSPost (Sp.mstep L E s) M (.slice (some ⟨g,0,none⟩) L.length cap) L E u p (((wr.drewN k).setCell ⟨M,2,none⟩ (.int .i64 (q:Int))).drew))):=by
     show ∀ k,_
     intro k
     have hI:=uh HI
     have hQ:=uh HQ
     have hbw:Below M w (((wr.drewN k).setCell ⟨M,2,none⟩ (.int .i64 (q:Int))).drew):=(KeptTo.set (hI.kept.trans ((below_drewN wr k).mono (Nat.le_of_lt (uh HX).lt))) _ _).drew
     refine⟨hbw,?_⟩
     obtain⟨r,hr⟩:=(uh HCM).keeps
     refine word_step (uh HCM).fm hr (uh HCM).rd hI.hi hI.pi hI.vi c (by omega) hl (uh HFN) hbw hgM ((kept_cell hbw hgM).trans ((uh HCM).mate _ c)) ?_ ⟨by omega,(kept_cell hbw hM).trans (uh HEE)⟩
     have:=((hI.mac.drewN k).fue q).drew
     rw[show s.fuel - 1=q by omega]
     exact this
    cases hD:Sp.mstep L E s with
    | none =>
     rw[hD] at HW
     have HP:Hid (∀ k w1,Below M (((wr.drewN k).setCell ⟨M,2,none⟩ (.int .i64 (q:Int))).drew) w1→O (.panicked [{ v := .iface u p,recovered:=false }]) w1):=by
      show ∀ k w1,_
      intro k w1 hk
      have hI:=uh HI
      rw[← uh hO,hI.run,mrun_fail c hD]
      exact⟨((uh HW) k).1.trans hk,Or.inl rfl⟩
     clear hD
     go_wp2_with fail
     go_quiet (fail)
     go_wp2_with fail
     go_region_with (refine(uh HW _).2.mono ?_;rintro e w1 ⟨hk1,rfl⟩;refine dead_end Tryz.prog w1 ⟨rfl,uh HP _ w1 hk1⟩ ?_)
     all_goals trivial
    | some t =>
     rw[hD] at HW
     have HN:Hid (∀ k w1 a,Below M (((wr.drewN k).setCell ⟨M,2,none⟩ (.int .i64 (q:Int))).drew) w1→a+1=t.at'→MacS w1 M (.slice (some ⟨g,0,none⟩) L.length cap) L E a t.fuel t.T t.lp→MInv L E M (.slice (some ⟨g,0,none⟩) L.length cap) w (w1.setCell ⟨M,1,none⟩ (.int .i64 ((a+1:Nat):Int))) s0 t∧t.fuel=q):=by
      show ∀ k w1 a,_
      intro k w1 a hk ha hm
      have hI:=uh HI
      have hQ:=uh HQ
      obtain⟨r,hr⟩:=(uh HCM).keeps
      have hft:=Sp.mstep_fuel hD
      refine⟨⟨Sp.mstep_inv (uh HCM).fm hr hI.hi c hD,Sp.mstep_pinv (uh HCM).fm hr hI.hi hI.pi c hD,Sp.mstep_vinv hE num_i64 hI.vi hD,?_,hI.run.trans (mrun_next c hD),KeptTo.set (((uh HW) k).1.trans hk) _ _,by omega⟩,by omega⟩
      rw[← ha]
      exact hm.att (a+1)
     have HT4:Hid (∀ a,a+1=t.at'→a≤4000):=by
      show ∀ a,_
      intro a ha
      have hI:=uh HI
      obtain⟨r,hr⟩:=(uh HCM).keeps
      have:=(Sp.mstep_inv (uh HCM).fm hr hI.hi c hD).le
      omega
     clear hD
     go_wp2_with fail
     go_quiet (fail)
     go_wp2_with fail
     go_region_with (refine(uh HW _).2.mono ?_;rintro e w1 ⟨hk1,rfl,a,ha,hd1⟩)
     all_goals
      have ha4:=uh HT4 a ha
      obtain⟨hI2,htf⟩:=uh HN _ w1 a hk1 ha hd1
      have HI2:=hde hI2
      have HTF:=hde htf
      obtain⟨x1,hx1,_⟩:=hd1
      have j1:=hx1.c1
      have j2:=hx1.fz 1
      have k3:=hx1.c2
      have HK3:=hde k3
      clear hx1 hk1 hI2 htf ha k3
      go_wp2
      go_roundw
      case rel=>exact⟨t,HI2⟩
      case measure =>
       have a1:=fuM_of e2
       have a2:fuM M (w1.setCell ⟨M,1,none⟩ (.int .i64 ((a:Int)+1)))=t.fuel:=by
        rw[fuM_of ((cso (by omega)).trans (uh HK3))];simp
       have:=uh HTF
       rw[a1,a2]
       omega
  ·have c1:¬ (s.at':Int) < (L.length:Int):=by omega
   go_wp2_with fail
   go_quiet (fail)
   go_wp2
   refine bodyPost_end (results_none rfl _ _ _) rfl ?_
   have hI:=uh HI
   rw[← uh hO,hI.run,mrun_end (by omega)]
   exact⟨hI.kept.trans ((below_drewN wr nq).mono (Nat.le_of_lt (uh HX).lt)),rfl,hI.mac.drewN nq⟩
end Go.Proofs.YteflnddphpjahaaGreatDoor
namespace Go.Proofs.YteflnddphpjahaaGreatDoor.Sp
open Go Go.RowKit
structure Seg (L:List (List UInt8)) (a b:Nat):Prop where
 le:a≤b
 len:b≤L.length
 fm:fmd true ((L.drop a).take (b - a)) 0=true
theorem seg_cons {L:List (List UInt8)} {i b:Nat} (hi:i < b) (hb:b≤L.length):(L.drop i).take (b - i)=L[i]'(by omega) :: (L.drop (i+1)).take (b - (i+1)):=by
 rw[List.drop_eq_getElem_cons (by omega),show b - i=(b - (i+1))+1 by omega,List.take_succ_cons]
theorem Seg.word {L:List (List UInt8)} {i b:Nat} (h:Seg L i b) (hi:i < b):tk true (L[i]'(by have:=h.len;omega))≠none∧L[i]'(by have:=h.len;omega)≠[93]:=by
 have hf:=h.fm
 rw[seg_cons hi h.len] at hf
 obtain⟨h1,h2,h3⟩:=fmd_cons hf
 refine⟨h1,fun e=>?_⟩
 rw[e,show ds [93] = -1 by decide] at h2
 omega
theorem Seg.next {L:List (List UInt8)} {i b:Nat} (h:Seg L i b) (hi:i < b) (hx:L[i]'(by have:=h.len;omega)≠[91]):Seg L (i+1) b:=by
 have hf:=h.fm
 rw[seg_cons hi h.len] at hf
 obtain⟨h1,h2,h3⟩:=fmd_cons hf
 rw[ds_none hx (h.word hi).2] at h3
 exact⟨hi,h.len,by simpa using h3⟩
theorem Seg.loop {L:List (List UInt8)} {i b:Nat} (h:Seg L i b) (hi:i < b) (hx:L[i]'(by have:=h.len;omega)=[91]) :
  ∃ e,clo (L.drop i) i 0=some e∧i < e∧e < b∧L.getD e []=[93]∧Seg L (i+1) e∧Seg L (e+1) b:=by
 have hf:=h.fm
 have hl:=h.len
 rw[seg_cons hi h.len] at hf
 obtain⟨h1,h2,h3⟩:=fmd_cons hf
 rw[hx,show ds [91]=1 by decide] at h3
 obtain⟨R1,R2,er,b1,b2,b3⟩:=fmd_split _ 0 (Int.le_refl _) (by simpa using h3)
 have hlen:R1.length+(R2.length+1)=b - (i+1):=by
  have:=congrArg List.length er
  simp only[List.length_take,List.length_drop,List.length_append,List.length_cons] at this
  omega
 have e1:(L.drop (i+1)).take R1.length=R1:=by
  have:=congrArg (List.take R1.length) er
  rw[List.take_take,Nat.min_eq_left (by omega),List.take_left' rfl] at this
  exact this
 have e2:(L.drop (i+1+R1.length+1)).take (b - (i+1+R1.length+1))=R2:=by
  have:=congrArg (List.drop (R1.length+1)) er
  rw[List.drop_take,List.drop_drop,show R1++[93] :: R2=(R1++[[93]])++R2 by simp,List.drop_left' (by simp)] at this
  rw[← this,show i+1+(R1.length+1)=i+1+R1.length+1 by omega,show b - (i+1) - (R1.length+1)=b - (i+1+R1.length+1) by omega]
 have e3:L.getD (i+1+R1.length) []=[93]:=by
  have h0:((L.drop (i+1)).take (b - (i+1)))[R1.length]? = some [93]:=by rw[er];simp
  rw[List.getElem?_take_of_lt (by omega),List.getElem?_drop] at h0
  rw[List.getD_eq_getElem?_getD,h0];rfl
 refine⟨i+1+R1.length,?_,by omega,by omega,e3,⟨by omega,by omega,?_⟩,⟨by omega,hl,?_⟩⟩
 ·rw[List.drop_eq_getElem_cons (by omega),hx]
  simp only[clo,show ds [91]=1 by decide]
  rw[if_neg (by omega)]
  have:=b3 (i+1) ((L.drop (i+1)).drop (b - (i+1)))
  rw[List.take_append_drop] at this
  simpa using this
 ·rw[show i+1+R1.length - (i+1)=R1.length by omega,e1];exact b1
 ·rw[e2];exact b2
theorem seg_all {L:List (List UInt8)} (hf:fmd true L 0=true):Seg L 0 L.length:=⟨Nat.zero_le _,Nat.le_refl _,by simpa using hf⟩
def rn (L:List (List UInt8)) (E:Ev) (s:Ms):Option Ms:=mrun L E (s.fuel+1) s
theorem rn_next {L:List (List UInt8)} {E:Ev} {s t:Ms} (hi:s.at' < L.length) (h:mstep L E s=some t):rn L E s=rn L E t:=by
 have hf:=mstep_fuel h
 unfold rn
 rw[mrun,if_neg (by omega),h]
 simp only
 exact mrun_gas _ t (by omega) _ (by omega)
theorem rn_fail {L:List (List UInt8)} {E:Ev} {s:Ms} (hi:s.at' < L.length) (h:mstep L E s=none):rn L E s=none:=by
 unfold rn
 rw[mrun,if_neg (by omega),h]
theorem rn_end {L:List (List UInt8)} {E:Ev} {s:Ms} (hi:L.length≤s.at'):rn L E s=some s:=by
 unfold rn
 rw[mrun,if_pos hi]
theorem rn_dry {L:List (List UInt8)} {E:Ev} {s:Ms} (hi:s.at' < L.length) (h:s.fuel=0):rn L E s=none:=rn_fail hi (by unfold mstep;rw[if_pos h])
structure Good (L:List (List UInt8)):Prop where
 fm:fmd true L 0=true
 one:drun L 0 []=some (1,[])
 len:L.length≤4000
structure SInv (L:List (List UInt8)) (E:Ev) (s0 s:Ms):Prop where
 run:rn L E s0=rn L E s
 hi:HInv L s
 vi:VInv s
 fu:s.fuel≤s0.fuel
theorem SInv.step {L:List (List UInt8)} {E:Ev} (hL:Good L) (hE:EvOk E) (hnum:∀ x n,number x=some n→i64 n) {s0 s t:Ms} (h:SInv L E s0 s) (hi:s.at' < L.length) (hs:mstep L E s=some t):SInv L E s0 t :=
 ⟨h.run.trans (rn_next hi hs),mstep_inv hL.fm hL.one h.hi hi hs,mstep_vinv hE hnum h.vi hs,by have:=mstep_fuel hs;have:=h.fu;omega⟩
theorem SInv.fail {L:List (List UInt8)} {E:Ev} {s0 s:Ms} (h:SInv L E s0 s) (hi:s.at' < L.length) (hs:mstep L E s=none):rn L E s0=none:=h.run.trans (rn_fail hi hs)
theorem step_plain {L:List (List UInt8)} {E:Ev} {i f:Nat} {T:List Int} {lp:List (Int × Nat)} (hi:i < L.length) (h1:L[i]≠[91]) (h2:L[i]≠[93]):mstep L E ⟨i,f+1,T,lp⟩=(weff E L[i] T).map fun T'=>⟨i+1,f,T',lp⟩:=by
 unfold mstep
 rw[if_neg (by simp),getD_of hi,if_neg h1,if_neg h2]
 rfl
theorem step_open0 {L:List (List UInt8)} {E:Ev} {i f e:Nat} {n:Int} {T:List Int} {lp:List (Int × Nat)} (hi:i < L.length) (h1:L[i]=[91]) (hc:clo (L.drop i) i 0=some e) (hn:n < 1):mstep L E ⟨i,f+1,n :: T,lp⟩=some ⟨e+1,f,T,lp⟩:=by
 unfold mstep
 rw[if_neg (by simp),getD_of hi,if_pos h1]
 simp only
 rw[if_pos hn,hc];rfl
theorem step_open1 {L:List (List UInt8)} {E:Ev} {i f:Nat} {n:Int} {T:List Int} {lp:List (Int × Nat)} (hi:i < L.length) (h1:L[i]=[91]) (hn:¬ n < 1):mstep L E ⟨i,f+1,n :: T,lp⟩=some ⟨i+1,f,T,(n,i) :: lp⟩:=by
 unfold mstep
 rw[if_neg (by simp),getD_of hi,if_pos h1]
 simp only
 rw[if_neg hn];rfl
theorem step_shut1 {L:List (List UInt8)} {E:Ev} {i f a:Nat} {k:Int} {T:List Int} {lp:List (Int × Nat)} (h1:L.getD i []=[93]) (hk:1 < k):mstep L E ⟨i,f+1,T,(k,a) :: lp⟩=some ⟨a+1,f,T,(k - 1,a) :: lp⟩:=by
 unfold mstep
 rw[if_neg (by simp),h1,if_neg (by decide),if_pos rfl]
 simp only
 rw[if_pos hk];rfl
theorem step_shut0 {L:List (List UInt8)} {E:Ev} {i f a:Nat} {k:Int} {T:List Int} {lp:List (Int × Nat)} (h1:L.getD i []=[93]) (hk:¬ 1 < k):mstep L E ⟨i,f+1,T,(k,a) :: lp⟩=some ⟨i+1,f,T,lp⟩:=by
 unfold mstep
 rw[if_neg (by simp),h1,if_neg (by decide),if_pos rfl]
 simp only
 rw[if_neg hk];rfl
theorem open_has {L:List (List UInt8)} (hL:Good L) {s:Ms} (h:HInv L s) (hi:s.at' < L.length) (hb:L[s.at']=[91]):∃ n T,s.T=n :: T:=by
 obtain⟨hh,ls,e,hT,hl⟩:=h.ex
 obtain⟨h',ls',d,_⟩:=at_word hL.one hi e
 rw[hb] at d
 obtain⟨hne,_⟩:=dst_91 d
 match hq:s.T with
 | []=>rw[hq] at hT;simp at hT;omega
 | n :: T=>exact⟨n,T,rfl⟩
theorem word_has {L:List (List UInt8)} (hL:Good L) {s:Ms} (h:HInv L s) (hi:s.at' < L.length) (h1:L[s.at']≠[91]) (h2:L[s.at']≠[93]):∃ n m,tk true L[s.at']=some (n,m)∧n≤s.T.length:=by
 obtain⟨hh,ls,e,hT,hl⟩:=h.ex
 obtain⟨h',ls',d,_⟩:=at_word hL.one hi e
 obtain⟨n,m,ht,hn,_⟩:=dst_word h1 h2 d
 exact⟨n,m,ht,by omega⟩
theorem hinv_len {L:List (List UInt8)} (hL:Good L) {s:Ms} (h:HInv L s):s.T.length≤16:=by
 obtain⟨hh,ls,e,hT,hl⟩:=h.ex
 have:=(drn_fmd hL.fm _ _ _ h.le e).2
 omega
theorem ev_of {L:List (List UInt8)} {E:Ev} {f:Nat} {T:List Int} (h:rn L E ⟨0,200,[],[]⟩=rn L E ⟨L.length,f,T,[]⟩):ev L E=T.head?:=by
 rw[rn_end (s:=⟨L.length,f,T,[]⟩) nlr] at h
 unfold ev
 unfold rn at h
 rw[h];rfl
theorem ev_none {L:List (List UInt8)} {E:Ev} (h:rn L E ⟨0,200,[],[]⟩=none):ev L E=none:=by
 unfold ev
 unfold rn at h
 rw[h];rfl
theorem sinv0 {L:List (List UInt8)} {E:Ev}:SInv L E ⟨0,200,[],[]⟩ ⟨0,200,[],[]⟩:=⟨rfl,hinv0 L 200,⟨fun v hv=>(by cases hv),fun q hq=>(by cases hq)⟩,Nat.le_refl _⟩
end Go.Proofs.YteflnddphpjahaaGreatDoor.Sp
namespace Go.Proofs.YteflnddphpjahaaGreatDoor
open Go.RowKit
namespace Sp
theorem mrun_inv {L:List (List UInt8)} {E:Ev} (hf:fmd true L 0=true) {r:Nat × List Nat} (hk:drun L 0 []=some r):∀ (g:Nat) (s t:Ms),HInv L s→mrun L E g s=some t→HInv L t∧L.length≤t.at':=by
 intro g
 induction g with
 | zero=>intro s t _ h;cases h
 | succ g ih =>
  intro s t hs h
  rw[mrun] at h
  split at h
  ·rename_i hl
   injection h with h;subst h
   exact⟨hs,hl⟩
  ·rename_i hl
   split at h
   ·cases h
   ·rename_i s' hs'
    exact ih _ _ (mstep_inv hf hk hs (by omega) hs') h
theorem mrun_one {L:List (List UInt8)} {E:Ev} (hL:Good L) {t:Ms} (h:mrun L E 201 ⟨0,200,[],[]⟩=some t):∃ v,t.T=[v]∧ev L E=some v:=by
 obtain⟨h1,h2⟩:=mrun_inv hL.fm hL.one _ _ _ (hinv0 L 200) h
 have h3:=hinv_end hL.one h1 h2
 obtain⟨v,hv⟩:=List.length_eq_one_iff.1 h3
 refine⟨v,hv,?_⟩
 unfold ev
 rw[h]
 simp[hv]
end Sp
def sightV (E:Sp.Ev):Value := .agg #[.int .i64 E.value,.int .i64 E.inn,.int .i64 E.got,.int .i64 E.step,.int .i64 E.id,.int .i64 E.deg,.int .i64 E.all,.int .i64 E.old,.int .i64 E.weight]
def machE (code:Value) (E:Sp.Ev):Array Value := #[code,.int .i64 0,.int .i64 200,.int .i64 E.value,.int .i64 E.inn,.int .i64 E.got,.int .i64 E.step,.int .i64 E.id,.int .i64 E.deg,.int .i64 E.all,.int .i64 E.old,.int .i64 E.weight,.int .i64 0,.int .i64 0,.int .i64 0,.int .i64 0,.int .i64 0,.int .i64 0,.int .i64 0,.int .i64 0,.int .i64 0,.int .i64 0,.int .i64 0,.int .i64 0,.int .i64 0,.int .i64 0,.int .i64 0,.int .i64 0,.int .i64 0,.slice none 0 0,.bool false]
theorem Mac.of_mach {w:World} {M t:Nat} {code:Value} {E:Sp.Ev} (h:w.heap[M]? = some (.cells (machE code E) t)):Mac w M code 0 200 E [] (.slice none 0 0):=by
 refine⟨by simp[World.cell?,h,machE],by simp[World.cell?,h,machE],by simp[World.cell?,h,machE],by simp[World.cell?,h,machE],by simp[World.cell?,h,machE],by simp[World.cell?,h,machE],by simp[World.cell?,h,machE],by simp[World.cell?,h,machE],by simp[World.cell?,h,machE],by simp[World.cell?,h,machE],by simp[World.cell?,h,machE],by simp[World.cell?,h,machE],fun j hj=>?_,fun j hj=>by simp at hj,by simp[World.cell?,h,machE],by simp[World.cell?,h,machE],by simp[World.cell?,h,machE],fun j=>by simp[World.frozen?,h],by simp⟩
 match j,hj with
 | 0,_=>exact⟨0,by simp[World.cell?,h,machE]⟩
 | 1,_=>exact⟨0,by simp[World.cell?,h,machE]⟩
 | 2,_=>exact⟨0,by simp[World.cell?,h,machE]⟩
 | 3,_=>exact⟨0,by simp[World.cell?,h,machE]⟩
 | 4,_=>exact⟨0,by simp[World.cell?,h,machE]⟩
 | 5,_=>exact⟨0,by simp[World.cell?,h,machE]⟩
 | 6,_=>exact⟨0,by simp[World.cell?,h,machE]⟩
 | 7,_=>exact⟨0,by simp[World.cell?,h,machE]⟩
 | 8,_=>exact⟨0,by simp[World.cell?,h,machE]⟩
 | 9,_=>exact⟨0,by simp[World.cell?,h,machE]⟩
 | 10,_=>exact⟨0,by simp[World.cell?,h,machE]⟩
 | 11,_=>exact⟨0,by simp[World.cell?,h,machE]⟩
 | 12,_=>exact⟨0,by simp[World.cell?,h,machE]⟩
 | 13,_=>exact⟨0,by simp[World.cell?,h,machE]⟩
 | 14,_=>exact⟨0,by simp[World.cell?,h,machE]⟩
 | 15,_=>exact⟨0,by simp[World.cell?,h,machE]⟩
 | n+16,hj=>exact absurd hj (by omega)
structure CodeW (w:World) (g:Nat) (L:List (List UInt8)):Prop where
 good:Sp.Good L
 rd:∃ MS,Sp.rdTo L L.length=some (MS,[])∧∀ i,i < L.length→w.cell? ⟨g,i * 2+1,none⟩=some (.int .i64 ((MS.getD i 0:Nat):Int))
 lt:g < w.heap.size
 fn:∀ i (hi:i < L.length),∃ F caps,w.cell? ⟨g,i * 2,none⟩=some (.func (.func F) #[] caps)∧Fn w w.heap.size L[i] (.func (.func F) #[] caps)
theorem Fn.belowM {w w':World} {B M:Nat} {x:List UInt8} {fv:Value} (h:Fn w B x fv) (hb:Below B w w') (hM:B≤M):Fn w' M x fv:=by
 rcases h with ⟨b,n,q1,q2,q3,q4⟩ | h
 ·exact Or.inl ⟨b,n,by omega,q2,(hb.block b q1).trans q3,q4⟩
 ·exact Or.inr h
theorem CodeW.below {w w':World} {g:Nat} {L:List (List UInt8)} (h:CodeW w g L) (hb:Below w.heap.size w w'):CodeW w' g L:=by
 obtain⟨MS,h1,h2⟩:=h.rd
 refine⟨h.good,⟨MS,h1,fun i hi=>(hb.cell (p:=⟨g,i * 2+1,none⟩) h.lt).trans (h2 i hi)⟩,Nat.lt_of_lt_of_le h.lt hb.size,fun i hi=>?_⟩
 obtain⟨F,caps,c1,c2⟩:=h.fn i hi
 exact⟨F,caps,(hb.cell (p:=⟨g,i * 2,none⟩) h.lt).trans c1,c2.belowM hb hb.size⟩
theorem CodeW.mach {w W:World} {g:Nat} {L:List (List UInt8)} (h:CodeW w g L) (hb:Below w.heap.size w W) {M:Nat} (hM:w.heap.size≤M):∃ MS,CodeM W M g L MS:=by
 obtain⟨MS,h1,h2⟩:=h.rd
 refine⟨MS,h.good.fm,⟨_,h.good.one⟩,h1,h.good.len,Nat.lt_of_lt_of_le h.lt hM,fun i hi=>?_,fun i hi=>(hb.cell (p:=⟨g,i * 2+1,none⟩) h.lt).trans (h2 i hi)⟩
 obtain⟨F,caps,c1,c2⟩:=h.fn i hi
 exact⟨F,caps,(hb.cell (p:=⟨g,i * 2,none⟩) h.lt).trans c1,c2.belowM hb hM⟩
structure Errs (w:World) (z f:Addr):Prop where
 cz:w.cell? ⟨1,0,none⟩=some (.iface 484 (.pointer (some z)))
 cf:w.cell? ⟨2,0,none⟩=some (.iface 484 (.pointer (some f)))
 ne:z≠f
 bz:∃ c t,w.heap[z.block]? = some (.cells c t (0,0))
 bf:∃ c t,w.heap[f.block]? = some (.cells c t (0,0))
theorem Errs.lz {w:World} {z f:Addr} (h:Errs w z f):1 < w.heap.size:=World.block_lt_of_cell? w _ h.cz
theorem Errs.lf {w:World} {z f:Addr} (h:Errs w z f):2 < w.heap.size:=World.block_lt_of_cell? w _ h.cf
theorem Errs.below {w w':World} {z f:Addr} (h:Errs w z f) (hb:Below w.heap.size w w'):Errs w' z f:=by
 obtain⟨c,t,h1⟩:=h.bz
 obtain⟨c2,t2,h2⟩:=h.bf
 exact⟨(hb.cell (p:=⟨1,0,none⟩) h.lz).trans h.cz,(hb.cell (p:=⟨2,0,none⟩) h.lf).trans h.cf,h.ne,⟨c,t,(hb.block _ (Array.getElem?_eq_some_iff.1 h1).1).trans h1⟩,⟨c2,t2,(hb.block _ (Array.getElem?_eq_some_iff.1 h2).1).trans h2⟩⟩
def Gave (z f:Addr) (e:Ending):Prop:=e = .panicked [{ v := .iface 484 (.pointer (some z)),recovered:=false }]∨e = .panicked [{ v := .iface 484 (.pointer (some f)),recovered:=false }]
def APost (o:Option Int) (z f:Addr) (w:World) (e:Ending) (w':World):Prop :=
 Below w.heap.size w w'∧match o with
  | some v=>e = .returned (.int .i64 v)
  | none=>Gave z f e
theorem answer_any (L:List (List UInt8)) (E:Sp.Ev) (hE:Sp.EvOk E) (g cap:Nat) (z f:Addr) (w:World) (hc:CodeW w g L) (he:Errs w z f) :
  Calls Tryz.prog 127 #[.slice (some ⟨g,0,none⟩) L.length cap,sightV E] w (APost (Sp.ev L E) z f w):=by
 have HC:=hde hc
 have HE:=hde he
 have HEO:=hde hE
 clear hc he hE
 generalize hO:APost (Sp.ev L E) z f w=O
 replace hO:=hde hO
 unfold sightV
 go_enter Tryz.func127,Tryz.ntmps127
 iterate 25 (first | go_values | go_skip | go_guarded | go_step | go_upon | (simp only[Int.not_lt,Int.not_le] at *;go_simp))
 refine wpList_store_row rfl 259 (.tmp 5) (.tmp 8) rfl (w.heap.size+1) (machE (.slice (some ⟨g,0,none⟩) L.length cap) E) rfl rfl 259 (machV (.slice none 0 0) 0 false) ?h1 (by kernel_rfl) rfl (by simp[machE,Value.oneCell']) ?h2
 case h1 =>
  rw[← World.size_alloc w (.cells #[.int .i64 E.value,.int .i64 E.inn,.int .i64 E.got,.int .i64 E.step,.int .i64 E.id,.int .i64 E.deg,.int .i64 E.all,.int .i64 E.old,.int .i64 E.weight] 184)]
  exact heap_alloc_new _ _
 case h2 =>
 have hb:Below w.heap.size w (((w.alloc (.cells #[.int .i64 E.value,.int .i64 E.inn,.int .i64 E.got,.int .i64 E.step,.int .i64 E.id,.int .i64 E.deg,.int .i64 E.all,.int .i64 E.old,.int .i64 E.weight] 184)).alloc (.cells (machV (.slice none 0 0) 0 false) 259)).setRow (w.heap.size+1) (machE (.slice (some ⟨g,0,none⟩) L.length cap) E)):=below_setRow (((Below.refl _ w).alloc nlr _).alloc (by simp) _) (by omega) _
 have hM:(((w.alloc (.cells #[.int .i64 E.value,.int .i64 E.inn,.int .i64 E.got,.int .i64 E.step,.int .i64 E.id,.int .i64 E.deg,.int .i64 E.all,.int .i64 E.old,.int .i64 E.weight] 184)).alloc (.cells (machV (.slice none 0 0) 0 false) 259)).setRow (w.heap.size+1) (machE (.slice (some ⟨g,0,none⟩) L.length cap) E)).heap[w.heap.size+1]? = some (.cells (machE (.slice (some ⟨g,0,none⟩) L.length cap) E) 259 (0,0)):=by
  refine setRow_heap _ _ (machV (.slice none 0 0) 0 false) _ _ _ ?_
  rw[← World.size_alloc w (.cells #[.int .i64 E.value,.int .i64 E.inn,.int .i64 E.got,.int .i64 E.step,.int .i64 E.id,.int .i64 E.deg,.int .i64 E.all,.int .i64 E.old,.int .i64 E.weight] 184)]
  exact heap_alloc_new _ _
 generalize hW:World.setRow _ _ _=W
 replace hb:Below w.heap.size w W:=by rw[← hW];exact hb
 replace hM:W.heap[w.heap.size+1]? = some (.cells (machE (.slice (some ⟨g,0,none⟩) L.length cap) E) 259 (0,0)):=by rw[← hW];exact hM
 clear hW
 have hlt:w.heap.size+1 < W.heap.size:=(Array.getElem?_eq_some_iff.1 hM).1
 have hrun:Calls Tryz.prog 125 #[.pointer (some ⟨w.heap.size+1,0,none⟩)] W (MRPost (Sp.mrun L E 201 ⟨0,200,[],[]⟩) (w.heap.size+1) (.slice (some ⟨g,0,none⟩) L.length cap) L E 484 (.pointer (some z)) 484 (.pointer (some f)) W):=by
  obtain⟨MS,hcm⟩:=(uh HC).mach hb (M:=w.heap.size+1) (by omega)
  have he:=uh HE
  refine mrun_any L MS E (uh HEO) (w.heap.size+1) g cap _ _ _ _ ⟨0,200,[],[]⟩ W hcm ⟨Sp.hinv0 L 200,Sp.pinv0 L 200,⟨fun v hv=>(by cases hv),fun q hq=>(by cases hq)⟩,⟨_,Mac.of_mach hM,World.ownsRow_nil _ _ _ _⟩,rfl,Below.refl _ _,Nat.le_refl _⟩ (by have:=he.lz;omega) ((hb.cell (p:=⟨1,0,none⟩) he.lz).trans he.cz) (by have:=he.lf;omega) ((hb.cell (p:=⟨2,0,none⟩) he.lf).trans he.cf)
 go_wp2_with fail
 refine hrun.mono ?_
 clear hrun
 cases hr:Sp.mrun L E 201 ⟨0,200,[],[]⟩ with
 | none =>
  have hev:Sp.ev L E=none:=by unfold Sp.ev;rw[hr];rfl
  rintro e w1 ⟨hk,h12⟩
  have hfin:∀ e,Gave z f e→O e w1:=fun e he=>by
   rw[← uh hO,hev];exact⟨hb.trans (hk.mono (by omega)),he⟩
  rcases h12 with rfl | rfl
  ·have HF:=hde (hfin _ (Or.inl rfl))
   clear hk hb hM hlt hfin hr hev
   go_wp2
   exact⟨rfl,uh HF⟩
  ·have HF:=hde (hfin _ (Or.inr rfl))
   clear hk hb hM hlt hfin hr hev
   go_wp2
   exact⟨rfl,uh HF⟩
 | some t =>
  obtain⟨v,hv,hev⟩:=Sp.mrun_one (uh HC).good hr
  rintro e w1 ⟨hk,rfl,x,hd,_⟩
  have hfin:∀ w2,Below w1.heap.size w1 w2∨Only (w.heap.size+1) w1 w2→O (.returned (.int .i64 v)) w2:=fun w2 h2=>by
   rw[← uh hO,hev]
   have h0:Below w.heap.size w w1:=hb.trans (hk.mono (by omega))
   rcases h2 with h2 | h2
   ·exact⟨h0.trans (h2.mono h0.size),rfl⟩
   ·exact⟨h0.trans (h2.below.mono (by omega)),rfl⟩
  rw[hv] at hd
  have HF:=hde hfin
  clear hk hb hM hlt hfin hr hev hv
  go_wp2_with fail
  refine(mtake v _ _ _ E [] _ x w1 hd).mono ?_
  rintro e w2 ⟨rfl,hd2,ho2⟩
  have HF2:=hde (uh HF w2 (Or.inr ho2))
  clear hd hd2 ho2
  go_wp2
  exact uh HF2
open Go.RowKit Go.Shelf Go.Lib
open Go.ChangeShapes Go.WideShapes Go.ChangeAt
theorem Tryz.star : "*" ++ "errors.errorString" = "*errors.errorString" := by decide
theorem Tryz.row_es (u : TypeId) (h : Tryz.prog.typeName? 3 u = some "*errors.errorString") : u = 484 :=
 typeName_ptr_named (nm := "errors.errorString") (by rw [Tryz.star]; kernel_rfl) (by kernel_rfl) (by decide) u (by rw [Tryz.star]; exact h)
theorem cellsES:Tryz.prog.cellsOf 509=1:=by kernel_rfl
theorem iface_err {w : World} {fuel : Nat} {t : TypeId} {ms : Array (String × TypeId)} {cs : List Value} {d : DataW Unit} {q : List MemPlace} (ht : Tryz.prog.underlying t = some (.interface ms)) (h : DataW.trod (fun _ => ()) Tryz.prog w 0 (fun _ => true) false fuel t cs = some (.iface "*errors.errorString" (.ptr d), q)) :
  ∃ u v,cs=[.iface u v]∧u=484∧DataW.Trod (fun _=>()) Tryz.prog w 0 (fun _=>true) false u v (.ptr d) q:=by
 cases fuel with
 | zero=>simp[DataW.trod] at h
 | succ n =>
  match cs,h with
  | [],h=>simp[DataW.trod,ht] at h
  | [c],h =>
   cases c
   case iface u v =>
    unfold DataW.trod at h
    rw[ht] at h
    simp only at h
    cases hn:Tryz.prog.typeName? 3 u with
    | none=>rw[hn] at h;simp at h
    | some name =>
     rw[hn] at h
     simp only[Option.map_eq_some_iff] at h
     obtain⟨x,hx,he⟩:=h
     injection he with h1 h2
     injection h1 with h3 h4
     refine⟨u,v,rfl,Tryz.row_es u (by rw[hn,h3]),n,?_⟩
     rw[hx]
     obtain⟨x1,x2⟩:=x
     simp only at h2 h4
     rw[h2,h4]
   all_goals (simp[DataW.trod,ht] at h)
  | a :: b :: r,h=>simp[DataW.trod,ht] at h
theorem err_place {w:World} {ps:List MemPlace} {n:String} {g0:Nat} {d:DataW Unit} (hg0:Tryz.prog.globalNamed n=some g0) (ht0:(Tryz.prog.globals[g0]?).map (·.type)=some 261) (hpl:∀ b off,MemPlace.cell b off ∈ ps→(∃ c t,w.heap[b]? = some (.cells c t (0,0)))∧∀ u v,w.cell? ⟨b,off,none⟩=some (.iface u v)→Value.okWide Tryz.prog w .any 0 u v)
  {g : Nat} {t : TypeId} {cs : Array Value} {fuel : Nat} {p : List MemPlace} (hg : Tryz.prog.globalNamed n = some g) (hty : (Tryz.prog.globals[g]?).map (·.type) = some t) (hvar : w.var? Tryz.prog n = some cs) (hd : DataW.trod (fun _ => ()) Tryz.prog w 0 (fun _ => true) false fuel t cs.toList = some (.iface "*errors.errorString" (.ptr d), p))
  (hsub:∀ x ∈ MemPlace.row ⟨g,0,none⟩ cs.size++p,x ∈ ps):∃ z:Addr,w.cell? ⟨g0,0,none⟩=some (.iface 484 (.pointer (some z)))∧MemPlace.cell z.block z.off ∈ p:=by
 obtain rfl:g0=g:=Option.some.inj (hg0.symm.trans hg)
 obtain rfl:261=t:=Option.some.inj (ht0.symm.trans hty)
 obtain⟨u,v,hcs,rfl,hT⟩:=iface_err Tryz.underlying261 hd
 have hcell:w.cell? ⟨g0,0,none⟩=some (.iface 484 v):=by
  rw[World.var?_cell hg hvar 0,← Array.getElem?_toList,hcs];rfl
 have hsz:cs.size=1:=by rw[← Array.length_toList,hcs];rfl
 have hok:=(hpl g0 0 (hsub _ (List.mem_append_left _ (by rw[hsz];simp[MemPlace.row])))).2 _ _ hcell
 rcases Go.ChangeShapes.open_ptr Tryz.underlying484 (by rw[cellsES];omega) hok hT with ⟨_,hd',_⟩ | ⟨ab,ao,cs',y,fu,rfl,hd',hp,_⟩
 ·cases hd'
 ·refine⟨⟨ab,ao,none⟩,hcell,?_⟩
  rw[hp]
  exact List.mem_append_left _ (by rw[cellsES];simp[MemPlace.row])
theorem errs_of {w : World} {a b c : String × DataW Unit} {r : List (String × DataW Unit)} (h : laidMet Tryz.prog (a :: b :: c :: ("stride/programs.errZero", Rows.laid_stride_programs_errZero) :: ("stride/programs.errFuel", Rows.laid_stride_programs_errFuel) :: r) w) : ∃ z f, Errs w z f := by
 obtain⟨ps,hv,hnd,hpl⟩:=h
 obtain⟨_,_,_,_,p1,q1,_,_,_,_,hv,rfl⟩:=hv
 obtain⟨_,_,_,_,p2,q2,_,_,_,_,hv,rfl⟩:=hv
 obtain⟨_,_,_,_,p3,q3,_,_,_,_,hv,rfl⟩:=hv
 obtain⟨g4,t4,cs4,f4,p4,q4,hg4,hty4,hvar4,hd4,hv,rfl⟩:=hv
 obtain⟨g5,t5,cs5,f5,p5,q5,hg5,hty5,hvar5,hd5,_,rfl⟩:=hv
 obtain⟨z,cz,mz⟩:=err_place (g0:=1) (by kernel_rfl) (by kernel_rfl) hpl hg4 hty4 hvar4 hd4 (fun x hx=>List.mem_append_right _ (List.mem_append_right _ (List.mem_append_right _ (List.mem_append_left _ hx))))
 obtain⟨f,cf,mf⟩:=err_place (g0:=2) (by kernel_rfl) (by kernel_rfl) hpl hg5 hty5 hvar5 hd5 (fun x hx=>List.mem_append_right _ (List.mem_append_right _ (List.mem_append_right _ (List.mem_append_right _ (List.mem_append_left _ hx)))))
 refine⟨z,f,cz,cf,?_,(hpl z.block z.off (List.mem_append_right _ (List.mem_append_right _ (List.mem_append_right _ (List.mem_append_left _ (List.mem_append_right _ mz)))))).1,(hpl f.block f.off (List.mem_append_right _ (List.mem_append_right _ (List.mem_append_right _ (List.mem_append_right _ (List.mem_append_left _ (List.mem_append_right _ mf))))))).1⟩
 rintro rfl
 have h1:=(List.nodup_append.1 hnd).2.1
 have h2:=(List.nodup_append.1 h1).2.1
 have h3:=(List.nodup_append.1 h2).2.1
 exact(List.nodup_append.1 h3).2.2 _ (List.mem_append_right _ mz) _ (List.mem_append_left _ (List.mem_append_right _ mf)) rfl
end Go.Proofs.YteflnddphpjahaaGreatDoor
