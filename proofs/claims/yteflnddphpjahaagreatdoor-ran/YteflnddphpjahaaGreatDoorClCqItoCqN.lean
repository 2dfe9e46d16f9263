import Derived.Test.YteflnddphpjahaaGreatDoorClCqBtoCqH
import Derived.Test.YteflnddphpjahaaGreatDoorClCpGtoTabC
import Derived.Test.YteflnddphpjahaaGreatDoorClSrtBtoCqA
set_option linter.unusedVariables false
set_option linter.unusedSimpArgs false
set_option maxRecDepth 100000
set_option maxHeartbeats 16000000
namespace Go.Proofs.YteflnddphpjahaaGreatDoor
open Go.RowKit
theorem begin_none (M at' fuel:Nat) (code x:Value) (w:World) (hd:Dry w M code at' fuel 0 x) (u:TypeId) (p:Value) (he:w.cell? ⟨5,0,none⟩=some (.iface u p)) :
  Calls Tryz.prog 202 #[.pointer (some ⟨M,0,none⟩)] w fun e w'=>e = .panicked [{ v := .iface u p,recovered:=false }]∧w'=w:=by
 go_enter Tryz.func202,Tryz.ntmps202
 go_wp2_with fail
 refine(take_none M at' fuel code x w hd u p he).mono ?_
 rintro e w1 ⟨rfl,rfl⟩
 go_wp2
 exact⟨rfl,rfl,rfl⟩
theorem own_cut {w:World} {B e size n g cap:Nat} {ys:List Value} (h:w.ownsRow B e size (.slice (some ⟨g,0,none⟩) (n+1) cap) (n+1) ys):w.ownsRow B e size (.slice (some ⟨g,0,none⟩) n cap) n (ys.take (n * size)):=by
 obtain⟨h1,h2⟩:=h
 rcases h2 with ⟨h2,_⟩ | ⟨g',cap',cur,hv,hB,hg,r1,r2,r3,r4⟩
 ·cases h2
 ·cases hv
  have hle:n * size≤(n+1) * size:=Nat.mul_le_mul_right _ (by omega)
  refine⟨by rw[List.length_take,h1];omega,.inr ⟨g,cap,cur,rfl,hB,hg,by omega,r2,r3,?_⟩⟩
  rw[← r4,List.take_take,Nat.min_eq_left hle]
theorem end_ok (M at' fuel h n g cap:Nat) (code:Value) (xs:List Value) (w:World) (hd:Dry w M code at' fuel h (.slice (some ⟨g,0,none⟩) (n+1) cap)) (hn:n≤10000) (ho:w.ownsRow (M+1) 379 2 (.slice (some ⟨g,0,none⟩) (n+1) cap) (n+1) (xs++[.int .i64 1,.int .i64 h])) (hl:xs.length=n * 2) :
  Calls Tryz.prog 204 #[.pointer (some ⟨M,0,none⟩)] w fun e w'=>e = .returned (.tuple #[])∧Dry w' M code at' fuel h (.slice (some ⟨g,0,none⟩) n cap)∧w'.ownsRow (M+1) 379 2 (.slice (some ⟨g,0,none⟩) n cap) n xs∧Below M w w':=by
 have q0:w.cell? ⟨g,n * 2,none⟩=some (.int .i64 1):=(ho.cellAt (n * 2) (by omega)).trans (by rw[List.getElem?_append_right (by omega),hl];simp)
 have q1:w.cell? ⟨g,n * 2+1,none⟩=some (.int .i64 h):=(ho.cellAt (n * 2+1) (by omega)).trans (by rw[List.getElem?_append_right (by omega),hl];simp)
 have q2:=ho.frozenAt (n * 2)
 have hgM:M < g:=(ho.lt g rfl).1
 have hMg:M≠g:=by omega
 have hgm:g≠M:=by omega
 have hcap:n+1≤cap:=by
  rcases ho.2 with ⟨h0,_⟩ | ⟨g',cap',cur,hv,hB,hg,r⟩
  ·cases h0
  ·cases hv;exact r.1
 have hc0:(n:Int)≤(cap:Int):=by omega
 have hc1:n≤cap:=by omega
 have e1:=hd.hh
 have e2:=hd.ll
 have e3:=hd.fz 29
 have g0:((n+1:Nat):Int) - 1=(n:Int):=by omega
 have g1:(0:Int)≤(n:Int):=Int.natCast_nonneg _
 have g2:(n:Int) < ((n+1:Nat):Int):=by omega
 have g3:(((h:Nat):Int) != ((h:Nat):Int))=false:=by simp
 have HZ:Hid (∀ k,(fun w'=>Dry w' M code at' fuel h (.slice (some ⟨g,0,none⟩) n cap)∧w'.ownsRow (M+1) 379 2 (.slice (some ⟨g,0,none⟩) n cap) n xs∧Below M w w') ((((w.drewN k).setCell ⟨g,n * 2,none⟩ (.int .i64 0)).setCell ⟨M,29,none⟩ (.slice (some ⟨g,0,none⟩) n cap)).drew)):=by
  intro k
  have hbk:=below_drewN w k
  have hd1:Dry (w.drewN k) M code at' fuel h (.slice (some ⟨g,0,none⟩) (n+1) cap):=hd.far (fun j=>hbk.cell (p:=⟨M,j,none⟩) hd.lt) (fun j=>hbk.frozen (p:=⟨M,j,none⟩) hd.lt)
  have ho1:=obl ho hbk
  have hst:=ho1.stored (n * 2) (.int .i64 0)
  have hd2:=hd1.grown hst.2 (by simp[Value.ownBlock];omega)
  have ho2:=own_cut hst.1
  rw[List.set_append_right _ _ (by omega),List.take_left' (by omega)] at ho2
  have hb2:=((hbk.mono (Nat.le_of_lt hd.lt)).setCell (p:=⟨g,n * 2,none⟩) (Nat.le_of_lt hgM) (.int .i64 0)).setCell (p:=⟨M,29,none⟩) nlr (.slice (some ⟨g,0,none⟩) n cap)
  exact⟨(hd2.lps _).drew,(((Only.refl M _).set _ _).own ho2).drew,hb2.drew⟩
 go_enter Tryz.func204,Tryz.ntmps204
 go_wp2_with fail
 go_quiet (fail)
 go_wp2_with fail
 go_quiet (fail)
 go_wp2
 go_region
 generalize nq=n2 at *
 exact bodyPost_end (results_none rfl _ _ _) rfl ⟨rfl,(uh HZ _).1,(uh HZ _).2.1,(uh HZ _).2.2⟩
theorem end_bad (M at' fuel h m n g cap:Nat) (code:Value) (xs:List Value) (w:World) (hd:Dry w M code at' fuel h (.slice (some ⟨g,0,none⟩) (n+1) cap)) (hn:n≤10000) (ho:w.ownsRow (M+1) 379 2 (.slice (some ⟨g,0,none⟩) (n+1) cap) (n+1) (xs++[.int .i64 1,.int .i64 m])) (hl:xs.length=n * 2) (hm:h≠m) (u:TypeId) (p:Value) (he:w.cell? ⟨5,0,none⟩=some (.iface u p)) :
  Calls Tryz.prog 204 #[.pointer (some ⟨M,0,none⟩)] w fun e w'=>e = .panicked [{ v := .iface u p,recovered:=false }]∧Below w.heap.size w w':=by
 have q1:w.cell? ⟨g,n * 2+1,none⟩=some (.int .i64 m):=(ho.cellAt (n * 2+1) (by omega)).trans (by rw[List.getElem?_append_right (by omega),hl];simp)
 have e1:=hd.hh
 have e2:=hd.ll
 have g0:((n+1:Nat):Int) - 1=(n:Int):=by omega
 have g1:(0:Int)≤(n:Int):=Int.natCast_nonneg _
 have g2:(n:Int) < ((n+1:Nat):Int):=by omega
 have g3:(((h:Nat):Int) != ((m:Nat):Int))=true:=by rw[bne_iff_ne];omega
 go_enter Tryz.func204,Tryz.ntmps204
 go_wp2_with fail
 go_quiet (fail)
 go_wp2_with fail
 go_quiet (fail)
 go_wp2
 exact⟨rfl,rfl,below_drewN _ _⟩
theorem do_24 (R:Ending→World→Prop) (M:Nat) (w:World) (h:Calls Tryz.prog 202 #[.pointer (some ⟨M,0,none⟩)] w R) (hR:∀ e w',R e w'→e = .returned (.tuple #[])∨∃ v,e = .panicked [{ v:=v,recovered:=false }]):Calls Tryz.prog 201 #[.pointer (some ⟨M,0,none⟩)] w R:=by
 go_enter Tryz.func201,Tryz.ntmps201
 go_wp2_with fail
 refine h.mono ?_
 intro e w1 hr
 rcases hR e w1 hr with rfl | ⟨v,rfl⟩
 ·go_wp2
  exact bodyPost_end (results_none rfl _ _ _) rfl hr
 ·go_wp2
  exact⟨rfl,hr⟩
theorem do_25 (R:Ending→World→Prop) (M:Nat) (w:World) (h:Calls Tryz.prog 204 #[.pointer (some ⟨M,0,none⟩)] w R) (hR:∀ e w',R e w'→e = .returned (.tuple #[])∨∃ v,e = .panicked [{ v:=v,recovered:=false }]):Calls Tryz.prog 203 #[.pointer (some ⟨M,0,none⟩)] w R:=by
 go_enter Tryz.func203,Tryz.ntmps203
 go_wp2_with fail
 refine h.mono ?_
 intro e w1 hr
 rcases hR e w1 hr with rfl | ⟨v,rfl⟩
 ·go_wp2
  exact bodyPost_end (results_none rfl _ _ _) rfl hr
 ·go_wp2
  exact⟨rfl,hr⟩
end Go.Proofs.YteflnddphpjahaaGreatDoor
namespace Go.Proofs.YteflnddphpjahaaGreatDoor.Sp
open Go
def dst (x:List UInt8) (h:Nat) (ls:List Nat):Option (Nat × List Nat):=
 if x=[91] then (if h=0 then none else some (h - 1,ls++[h - 1]))
 else if x=[93] then (match ls.getLast? with | some m=>if h=m then some (h,ls.dropLast) else none | none=>none)
 else match tk true x with
  | none=>none
  | some (n,m)=>if n≤h∧h - n+m≤16 then some (h - n+m,ls) else none
def drun:List (List UInt8)→Nat→List Nat→Option (Nat × List Nat)
 | [],h,ls=>some (h,ls)
 | x :: r,h,ls=>match dst x h ls with
  | none=>none
  | some (h',ls')=>drun r h' ls'
theorem drun_append:∀ (A B:List (List UInt8)) (h:Nat) (ls:List Nat),drun (A++B) h ls=match drun A h ls with
  | none=>none
  | some (h',ls')=>drun B h' ls':=by
 intro A
 induction A with
 | nil=>intro B h ls;rfl
 | cons x r ih =>
  intro B h ls
  simp only[List.cons_append,drun]
  cases dst x h ls with
  | none=>rfl
  | some p=>exact ih B p.1 p.2
theorem drun_open (r:List (List UInt8)) (h:Nat) (ls:List Nat):drun ([91] :: r) h ls=if h=0 then none else drun r (h - 1) (ls++[h - 1]):=by
 have e:dst [91] h ls=if h=0 then none else some (h - 1,ls++[h - 1]):=by unfold dst;rw[if_pos rfl]
 rw[drun,e]
 by_cases h0:h=0
 ·rw[if_pos h0,if_pos h0]
 ·rw[if_neg h0,if_neg h0]
theorem drun_shut (r:List (List UInt8)) (h m:Nat) (ls:List Nat):drun ([93] :: r) h (ls++[m])=if h=m then drun r h ls else none:=by
 have e:dst [93] h (ls++[m])=if h=m then some (h,ls) else none:=by
  unfold dst
  rw[if_neg (by decide),if_pos rfl]
  simp only[List.getLast?_append,List.getLast?_singleton,Option.some_or,List.dropLast_concat]
 rw[drun,e]
 by_cases h0:h=m
 ·rw[if_pos h0,if_pos h0]
 ·rw[if_neg h0,if_neg h0]
theorem ds_none {x:List UInt8} (h1:x≠[91]) (h2:x≠[93]):ds x=0:=by unfold ds;rw[if_neg h1,if_neg h2]
theorem fmd_cons {wt:Bool} {x:List UInt8} {r:List (List UInt8)} {d:Int} (h:fmd wt (x :: r) d=true):tk wt x≠none∧0≤d+ds x∧fmd wt r (d+ds x)=true:=by
 simp only[fmd] at h
 split at h
 ·cases h
 ·rename_i hc
  exact⟨fun e=>hc (Or.inl e),by omega,h⟩
theorem fmd_mk {wt:Bool} {x:List UInt8} {r:List (List UInt8)} {d:Int} (h1:tk wt x≠none) (h2:0≤d+ds x) (h:fmd wt r (d+ds x)=true):fmd wt (x :: r) d=true:=by
 simp only[fmd]
 rw[if_neg (by intro hc;rcases hc with hc | hc;exact h1 hc;omega)]
 exact h
theorem fmd_weight:∀ (R:List (List UInt8)) (d:Int),fmd false R d=true→fmd true R d=true:=by
 intro R
 induction R with
 | nil=>intro d h;exact h
 | cons x r ih =>
  intro d h
  obtain⟨h1,h2,h3⟩:=fmd_cons h
  refine fmd_mk ?_ h2 (ih _ h3)
  cases ht:tk false x with
  | none=>exact absurd ht h1
  | some p=>rw[tk_weight (n:=p.1) (m:=p.2) (by rw[ht])];exact fun e=>by cases e
theorem fmd_split:∀ (R:List (List UInt8)) (d:Int),0≤d→fmd true R (d+1)=true →
  ∃ R1 R2,R=R1++[93] :: R2∧fmd true R1 d=true∧fmd true R2 0=true∧∀ k T,clo (R++T) k (d+1)=some (k+R1.length):=by
 intro R
 induction R with
 | nil =>
  intro d hd h
  simp only[fmd,decide_eq_true_eq] at h
  omega
 | cons y r ih =>
  intro d hd h
  obtain⟨h1,h2,h3⟩:=fmd_cons h
  by_cases hc:d+1+ds y=0
  ·have hy:y=[93]:=by
    have hb:=ds_bd y
    by_cases e1:y=[91]
    ·subst e1;simp[ds] at hc;omega
    ·by_cases e2:y=[93]
     ·exact e2
     ·rw[ds_none e1 e2] at hc;omega
   have hd0:d=0:=by have:=ds_bd y;omega
   subst hy hd0
   refine⟨[],r,rfl,rfl,by rw[hc] at h3;exact h3,fun k T=>?_⟩
   simp only[List.cons_append,clo]
   rw[if_pos hc];rfl
  ·obtain⟨R1,R2,e,f1,f2,f3⟩:=ih (d+ds y) (by omega) (by rw[show d+ds y+1=d+1+ds y by omega];exact h3)
   refine⟨y :: R1,R2,by rw[e];rfl,fmd_mk h1 (by omega) f1,f2,fun k T=>?_⟩
   simp only[List.cons_append,clo]
   rw[if_neg hc,show d+1+ds y=d+ds y+1 by omega,f3 (k+1) T]
   simp only[List.length_cons]
   congr 1;omega
theorem hgt_end (L:List (List UInt8)) (f a h:Nat):hgt L f a a h=some h:=by
 cases f with
 | zero=>simp[hgt]
 | succ f=>rw[hgt,if_pos nlr]
theorem drun_hgt (L:List (List UInt8)):∀ (N:Nat) (S T:List (List UInt8)) (a h:Nat) (ls:List Nat),S.length≤N→L.drop a=S++T→a+S.length≤L.length→fmd true S 0=true→h≤16 →
  drun S h ls=match hgt L (L.length - a) a (a+S.length) h with
   | none=>none
   | some h'=>some (h',ls):=by
 intro N
 induction N with
 | zero =>
  intro S T a h ls hN hL ha hf hh
  have:S=[]:=List.eq_nil_of_length_eq_zero (by omega)
  subst this
  rw[List.length_nil,Nat.add_zero,hgt_end];rfl
 | succ N ih =>
  intro S T a h ls hN hL ha hf hh
  cases S with
  | nil=>rw[List.length_nil,Nat.add_zero,hgt_end];rfl
  | cons x r =>
   obtain⟨h1,h2,h3⟩:=fmd_cons hf
   have hla:a < L.length:=by simp only[List.length_cons] at ha;omega
   have hx:L.getD a []=x:=by
    rw[List.getD_eq_getElem?_getD,List.getElem?_eq_getElem hla]
    have:=List.drop_eq_getElem_cons hla
    rw[hL] at this
    simp only[List.cons_append,List.cons.injEq] at this
    simp[this.1]
   have hLr:L.drop (a+1)=r++T:=by
    have:=List.drop_eq_getElem_cons hla
    rw[hL] at this
    simp only[List.cons_append,List.cons.injEq] at this
    exact this.2.symm
   have hlen:L.length - a=(L.length - (a+1))+1:=by omega
   simp only[List.length_cons] at ha hN ⊢
   rw[hlen,hgt,if_neg (by omega),hx]
   by_cases e1:x=[91]
   ·subst e1
    have htk:tk true [91]=some (1,0):=by decide
    rw[htk]
    simp only
    have hds:ds [91]=1:=by decide
    rw[hds] at h3
    obtain⟨R1,R2,er,f1,f2,f3⟩:=fmd_split r 0 (Int.le_refl _) (by simpa using h3)
    have hclo:clo (L.drop a) a 0=some (a+1+R1.length):=by
     rw[hL]
     simp only[List.cons_append,clo,hds]
     rw[if_neg (by omega)]
     exact f3 (a+1) T
    rw[drun_open]
    by_cases h0:h=0
    ·rw[if_pos h0,if_pos (by omega)]
    ·rw[if_neg h0,if_neg (by omega),if_pos trivial,hclo]
     simp only
     have hrl:r.length=R1.length+(R2.length+1):=by rw[er];simp
     have i1:=ih R1 ([93] :: R2++T) (a+1) (h - 1) (ls++[h - 1]) (by omega) (by rw[hLr,er];simp) (by omega) f1 (by omega)
     have hL2:L.drop (a+1+R1.length+1)=R2++T:=by
      rw[Nat.add_assoc (a+1),← List.drop_drop,hLr,er]
      rw[show R1++[93] :: R2++T=(R1++[[93]])++(R2++T) by simp]
      exact List.drop_left' (by simp)
     have i2:=ih R2 T (a+1+R1.length+1) (h - 1) ls (by omega) hL2 (by omega) f2 (by omega)
     rw[er,drun_append,i1]
     have eb:a+(R1++[93] :: R2).length+1=a+1+R1.length+1+R2.length:=by simp;omega
     have ef:L.length - (a+1) - (a+1+R1.length - a)=L.length - (a+1+R1.length+1):=by omega
     simp only[Nat.add_zero]
     cases hg:hgt L (L.length - (a+1)) (a+1) (a+1+R1.length) (h - 1) with
     | none=>simp only;rw[if_neg (by intro e;cases e)]
     | some h' =>
      simp only
      rw[drun_shut]
      by_cases hq:h'=h - 1
      ·subst hq
       rw[if_pos rfl,if_pos rfl,i2,ef]
       have:a+((R1++[93] :: R2).length+1)=a+1+R1.length+1+R2.length:=by simp;omega
       rw[this]
      ·rw[if_neg hq,if_neg (by intro e;injection e with e;exact hq e)]
   ·have e2:x≠[93]:=by
     rintro rfl
     have:ds [93] = -1:=by decide
     omega
    have hds:=ds_none e1 e2
    rw[hds] at h3
    cases ht:tk true x with
    | none=>exact absurd ht h1
    | some p =>
     obtain⟨n,m⟩:=p
     simp only[drun,dst]
     rw[if_neg e1,if_neg e2,ht]
     simp only
     by_cases hq:n≤h∧h - n+m≤16
     ·rw[if_pos hq,if_neg (by omega),if_neg e1]
      simp only
      have:=ih r T (a+1) (h - n+m) ls (by omega) hLr (by omega) (by simpa using h3) (by omega)
      rw[this,show a+1+r.length=a+(r.length+1) by omega]
     ·rw[if_neg hq,if_pos (by omega)]
def keeps (C:List (List UInt8)):Bool:=decide (hgt C C.length 0 C.length 0=some 1)
theorem keeps_drun {C:List (List UInt8)} (hf:fmd true C 0=true):(keeps C=true∧drun C 0 []=some (1,[]))∨(keeps C=false∧(drun C 0 []=none∨∃ h,h≠1∧drun C 0 []=some (h,[]))):=by
 have h:=drun_hgt C C.length C [] 0 0 [] nlr (by simp) (by omega) hf (by omega)
 rw[Nat.sub_zero,Nat.zero_add] at h
 unfold keeps
 cases hg:hgt C C.length 0 C.length 0 with
 | none=>rw[hg] at h;exact Or.inr ⟨by decide,Or.inl h⟩
 | some h' =>
  rw[hg] at h
  by_cases e:h'=1
  ·subst e;exact Or.inl ⟨by decide,h⟩
  ·exact Or.inr ⟨decide_eq_false (fun he=>e (by injection he)),Or.inr ⟨h',e,h⟩⟩
def wtk:List (Nat × Nat):=[(0,1),(0,1),(0,1),(0,1),(0,1),(0,1),(0,1),(0,1),(0,1),(2,1),(2,1),(2,1),(2,1),(2,1),(2,1),(2,1),(2,1),(2,1),(1,2),(1,0),(2,2),(2,3),(3,1),(1,0),(0,0)]
theorem tk_num {wt:Bool} {x:List UInt8} {n:Int} (h:number x=some n):tk wt x=some (0,1):=by
 unfold tk;rw[if_pos (Or.inl (by rw[h];rfl))]
theorem tk_true:∀ k,k < 25→tk true (nms[k]!)=some (wtk[k]!):=by decide
theorem tk_false:∀ k,k < 25→tk false (nms[k]!)=if k=8 then none else some (wtk[k]!):=by decide
theorem tk_none {wt:Bool} {x:List UInt8} (h:number x=none) (hx:∀ k,k < 25→nms[k]!≠x):tk wt x=none:=by
 have e:∀ y ∈ nms,y≠x:=by
  intro y hy
  obtain⟨k,hk,rfl⟩:=List.mem_iff_getElem.1 hy
  have h25:nms.length=25:=rfl
  have:=hx k (by omega)
  rwa [getElem!_pos nms k hk] at this
 have e1:x ∉ loadsL:=fun hm=>e x ((by decide:∀ y ∈ loadsL,y ∈ nms) x hm) rfl
 have e2:x ∉ twosL:=fun hm=>e x ((by decide:∀ y ∈ twosL,y ∈ nms) x hm) rfl
 have f:∀ y,y ∈ nms→x≠y:=fun y hy he=>e y hy he.symm
 unfold tk
 rw[if_neg (by rintro(hc | hc | hc);(rw[h] at hc;cases hc);exact e1 hc;exact f _ (by decide) hc.2),if_neg e2,if_neg (f _ (by decide)),if_neg (f _ (by decide)),if_neg (f _ (by decide)),if_neg (f _ (by decide)),if_neg (f _ (by decide)),if_neg (f _ (by decide)),if_neg (f _ (by decide))]
end Go.Proofs.YteflnddphpjahaaGreatDoor.Sp
namespace Go.Proofs.YteflnddphpjahaaGreatDoor
open Go.RowKit
def flat:List Nat→List Value
 | []=>[]
 | h :: r=>.int .i64 1 :: .int .i64 h :: flat r
theorem flat_len (ls:List Nat):(flat ls).length=ls.length * 2:=by
 induction ls with
 | nil=>rfl
 | cons h r ih=>simp only[flat,List.length_cons,ih];omega
theorem flat_app (a b:List Nat):flat (a++b)=flat a++flat b:=by
 induction a with
 | nil=>rfl
 | cons h r ih=>simp[flat,ih]
def DryS (w:World) (M:Nat) (code:Value) (at' fuel h:Nat) (ls:List Nat):Prop :=
 ∃ x,Dry w M code at' fuel h x∧w.ownsRow (M+1) 379 2 x ls.length (flat ls)
def WPost (o:Option (Nat × List Nat)) (M at' fuel:Nat) (code:Value) (u:TypeId) (p:Value) (w:World) (e:Ending) (w':World):Prop :=
 Below M w w'∧match o with
  | some (h,ls)=>e = .returned (.tuple #[])∧DryS w' M code at' fuel h ls
  | none=>e = .panicked [{ v := .iface u p,recovered:=false }]
def WordLaw (F:Nat) (x:List UInt8):Prop := ∀ (M at' fuel h:Nat) (code:Value) (ls:List Nat) (u:TypeId) (p:Value) (w:World),DryS w M code at' fuel h ls→DryEnv M h u p w→ls.length≤10000→(x=[93]→ls≠[]) →
 Calls Tryz.prog F #[.pointer (some ⟨M,0,none⟩)] w (WPost (Sp.dst x h ls) M at' fuel code u p w)
theorem post_word {x:List UInt8} (h1:x≠[91]) (h2:x≠[93]) {n m:Nat} (ht:Sp.tk true x=some (n,m)) {M at' fuel h:Nat} {code l:Value} {ls:List Nat} {u:TypeId} {p:Value} {w w':World} {e:Ending} (hr:w.ownsRow (M+1) 379 2 l ls.length (flat ls)) (hp:DoPost n m M at' fuel h code l u p w e w') :
  WPost (Sp.dst x h ls) M at' fuel code u p w e w':=by
 obtain⟨ho,hq⟩:=hp
 refine⟨ho.below,?_⟩
 unfold Sp.dst
 rw[if_neg h1,if_neg h2,ht]
 simp only
 rcases hq with ⟨q1,q2,rfl,q3⟩ | ⟨q1,rfl⟩
 ·rw[if_pos ⟨q1,q2⟩];exact⟨rfl,l,q3,ho.own hr⟩
 ·rw[if_neg q1]
theorem does_word {F n m:Nat} (hF:Does F n m) {x:List UInt8} (h1:x≠[91]) (h2:x≠[93]) (ht:Sp.tk true x=some (n,m)):WordLaw F x:=by
 intro M at' fuel h code ls u p w hd hv hl hx
 obtain⟨l,hd,hr⟩:=hd
 exact(hF M at' fuel h code l u p w hd hv).mono fun e w' hp=>post_word h1 h2 ht hr hp
theorem law_24:WordLaw 201 [91]:=by
 intro M at' fuel h code ls u p w hd hv hl hx
 obtain⟨l,hd,hr⟩:=hd
 cases h with
 | zero =>
  refine(do_24 _ M w (begin_none M at' fuel code l w hd u p hv.he) (fun e w' hh=>Or.inr ⟨_,hh.1⟩)).mono ?_
  rintro e w' ⟨rfl,rfl⟩
  exact⟨Below.refl _ _,rfl⟩
 | succ h =>
  refine(do_24 _ M w (begin_ok M at' fuel h ls.length code l (flat ls) w hd hv.hh hl hr) (fun e w' hh=>Or.inl hh.1)).mono ?_
  rintro e w' ⟨rfl,x',hd',hr',hk⟩
  refine⟨hk,rfl,x',hd',?_⟩
  rw[flat_app,show (ls++[h+1 - 1]).length=ls.length+1 by simp]
  exact hr'
theorem law_25:WordLaw 203 [93]:=by
 intro M at' fuel h code ls u p w hd hv hl hx
 obtain⟨l,hd,hr⟩:=hd
 obtain⟨ls,m,rfl⟩:∃ a m,ls=a++[m]:=⟨ls.dropLast,ls.getLast (hx rfl),(List.dropLast_concat_getLast (hx rfl)).symm⟩
 rw[flat_app] at hr
 simp only[List.length_append,List.length_cons,List.length_nil] at hr hl
 have hs:∃ g cap,l = .slice (some ⟨g,0,none⟩) (ls.length+1) cap:=by
  rcases hr.2 with ⟨h0,hn⟩ | ⟨g,cap,cur,hv,_⟩
  ·omega
  ·exact⟨g,cap,hv⟩
 obtain⟨g,cap,rfl⟩:=hs
 have e1:Sp.dst [93] h (ls++[m])=if h=m then some (h,ls) else none:=by
  unfold Sp.dst
  rw[if_neg (by decide),if_pos rfl]
  simp only[List.getLast?_append,List.getLast?_singleton,Option.some_or,List.dropLast_concat]
 rw[e1]
 by_cases hm:h=m
 ·subst hm
  rw[if_pos rfl]
  refine(do_25 _ M w (end_ok M at' fuel h ls.length g cap code (flat ls) w hd (by omega) hr (flat_len ls)) (fun e w' hh=>Or.inl hh.1)).mono ?_
  rintro e w' ⟨rfl,hd',hr',hk⟩
  exact⟨hk,rfl,_,hd',hr'⟩
 ·rw[if_neg hm]
  refine(do_25 _ M w (end_bad M at' fuel h m ls.length g cap code (flat ls) w hd (by omega) hr (flat_len ls) hm u p hv.he) (fun e w' hh=>Or.inr ⟨_,hh.1⟩)).mono ?_
  rintro e w' ⟨rfl,hb⟩
  exact⟨hb.mono (Nat.le_of_lt hd.lt),rfl⟩
theorem word_all:(k:Nat)→k < 25→WordLaw (wfn[k]!) (Sp.nms[k]!)
 | 0,_=>does_word do_1 (by decide) (by decide) (by decide)
 | 1,_=>does_word do_2 (by decide) (by decide) (by decide)
 | 2,_=>does_word do_3 (by decide) (by decide) (by decide)
 | 3,_=>does_word do_4 (by decide) (by decide) (by decide)
 | 4,_=>does_word do_5 (by decide) (by decide) (by decide)
 | 5,_=>does_word do_6 (by decide) (by decide) (by decide)
 | 6,_=>does_word do_7 (by decide) (by decide) (by decide)
 | 7,_=>does_word do_8 (by decide) (by decide) (by decide)
 | 8,_=>does_word do_9 (by decide) (by decide) (by decide)
 | 9,_=>does_word do_10 (by decide) (by decide) (by decide)
 | 10,_=>does_word do_11 (by decide) (by decide) (by decide)
 | 11,_=>does_word do_12 (by decide) (by decide) (by decide)
 | 12,_=>does_word do_13 (by decide) (by decide) (by decide)
 | 13,_=>does_word do_14 (by decide) (by decide) (by decide)
 | 14,_=>does_word do_15 (by decide) (by decide) (by decide)
 | 15,_=>does_word do_16 (by decide) (by decide) (by decide)
 | 16,_=>does_word do_17 (by decide) (by decide) (by decide)
 | 17,_=>does_word do_18 (by decide) (by decide) (by decide)
 | 18,_=>does_word do_19 (by decide) (by decide) (by decide)
 | 19,_=>does_word do_20 (by decide) (by decide) (by decide)
 | 20,_=>does_word do_21 (by decide) (by decide) (by decide)
 | 21,_=>does_word do_22 (by decide) (by decide) (by decide)
 | 22,_=>does_word do_23 (by decide) (by decide) (by decide)
 | 23,_=>law_24
 | 24,_=>law_25
 | n+25,h=>absurd h (by omega)
theorem word_num {x:List UInt8} {n:Int} (hn:Sp.number x=some n) (B M at' fuel h:Nat) (code:Value) (ls:List Nat) (u:TypeId) (p:Value) (w:World) (hd:DryS w M code at' fuel h ls) (hv:DryEnv M h u p w) (hB:w.cell? ⟨B,0,none⟩=some (.int .i64 n)) :
  Calls Tryz.prog 300 #[.pointer (some ⟨M,0,none⟩),.pointer (some ⟨B,0,none⟩)] w (WPost (Sp.dst x h ls) M at' fuel code u p w):=by
 obtain⟨l,hd,hr⟩:=hd
 have h1:x≠[91]:=by rintro rfl;rw[show Sp.number [91]=none by decide] at hn;cases hn
 have h2:x≠[93]:=by rintro rfl;rw[show Sp.number [93]=none by decide] at hn;cases hn
 exact(do_num B n M at' fuel h code l u p w hd hv hB).mono fun e w' hp=>post_word h1 h2 (Sp.tk_num hn) hr hp
theorem Dry.att {w:World} {M at' fuel h:Nat} {code loops:Value} (hd:Dry w M code at' fuel h loops) (a:Nat):Dry (w.setCell ⟨M,1,none⟩ (.int .i64 a)) M code a fuel h loops:=by
 obtain⟨c0,c1,c2,sg,st,hh,ll,dr,fz⟩:=hd
 refine⟨?_,?_,?_,fun j hj=>?_,fun j hj=>?_,?_,?_,?_,fun j=>?_⟩
 ·rw[cso (by omega)];exact c0
 ·exact World.cell?_setCell_same _ _ _ c1
 ·rw[cso (by omega)];exact c2
 ·rw[cso (by omega)];exact sg j hj
 ·rw[cso (by omega)];exact st j hj
 ·rw[cso (by omega)];exact hh
 ·rw[cso (by omega)];exact ll
 ·rw[cso (by omega)];exact dr
 ·rw[World.frozen?_setCell];exact fz j
theorem Dry.fue {w:World} {M at' fuel h:Nat} {code loops:Value} (hd:Dry w M code at' fuel h loops) (a:Nat):Dry (w.setCell ⟨M,2,none⟩ (.int .i64 a)) M code at' a h loops:=by
 obtain⟨c0,c1,c2,sg,st,hh,ll,dr,fz⟩:=hd
 refine⟨?_,?_,?_,fun j hj=>?_,fun j hj=>?_,?_,?_,?_,fun j=>?_⟩
 ·rw[cso (by omega)];exact c0
 ·rw[cso (by omega)];exact c1
 ·exact World.cell?_setCell_same _ _ _ c2
 ·rw[cso (by omega)];exact sg j hj
 ·rw[cso (by omega)];exact st j hj
 ·rw[cso (by omega)];exact hh
 ·rw[cso (by omega)];exact ll
 ·rw[cso (by omega)];exact dr
 ·rw[World.frozen?_setCell];exact fz j
theorem DryS.att {w:World} {M at' fuel h:Nat} {code:Value} {ls:List Nat} (hd:DryS w M code at' fuel h ls) (a:Nat):DryS (w.setCell ⟨M,1,none⟩ (.int .i64 a)) M code a fuel h ls:=by
 obtain⟨x,h1,h2⟩:=hd
 exact⟨x,h1.att a,((Only.refl M w).set _ _).own h2⟩
theorem DryS.fue {w:World} {M at' fuel h:Nat} {code:Value} {ls:List Nat} (hd:DryS w M code at' fuel h ls) (a:Nat):DryS (w.setCell ⟨M,2,none⟩ (.int .i64 a)) M code at' a h ls:=by
 obtain⟨x,h1,h2⟩:=hd
 exact⟨x,h1.fue a,((Only.refl M w).set _ _).own h2⟩
theorem DryS.drewN {w:World} {M at' fuel h:Nat} {code:Value} {ls:List Nat} (hd:DryS w M code at' fuel h ls) (k:Nat):DryS (w.drewN k) M code at' fuel h ls:=by
 obtain⟨x,h1,h2⟩:=hd
 have hbk:=below_drewN w k
 exact⟨x,h1.far (fun j=>hbk.cell (p:=⟨M,j,none⟩) h1.lt) (fun j=>hbk.frozen (p:=⟨M,j,none⟩) h1.lt),obl h2 hbk⟩
theorem DryS.drew {w:World} {M at' fuel h:Nat} {code:Value} {ls:List Nat} (hd:DryS w M code at' fuel h ls):DryS w.drew M code at' fuel h ls:=by
 obtain⟨x,h1,h2⟩:=hd
 exact⟨x,h1.drew,h2.drew⟩
abbrev KeptTo (M:Nat) (w w':World):Prop:=Below M w w'
theorem KeptTo.set {M:Nat} {w w':World} (h:KeptTo M w w') (j:Nat) (v:Value):KeptTo M w (w'.setCell ⟨M,j,none⟩ v):=Below.setCell h (p:=⟨M,j,none⟩) nlr v
theorem kept_cell {M:Nat} {w w':World} (h:KeptTo M w w') {b j:Nat} (hb:b < M):w'.cell? ⟨b,j,none⟩=w.cell? ⟨b,j,none⟩:=Below.cell h (p:=⟨b,j,none⟩) hb
def Fn (w:World) (M:Nat) (x:List UInt8) (fv:Value):Prop :=
 (∃ B n,B < M∧fv = .func (.func 300) #[] #[.pointer (some ⟨B,0,none⟩)]∧NumAt w B n∧Sp.number x=some n)∨(∃ k,k < 25∧x=Sp.nms[k]!∧fv=wordFn k)
def CodeRow (w:World) (M g:Nat) (L:List (List UInt8)):Prop:=g < M∧∀ i (hi:i < L.length),∃ fv,w.cell? ⟨g,i * 2,none⟩=some fv∧Fn w M L[i] fv
def RPost (o:Option (Nat × List Nat)) (M:Nat) (code:Value) (u:TypeId) (p:Value) (w:World) (e:Ending) (w':World):Prop :=
 KeptTo M w w'∧match o with
  | some (h,ls)=>e = .returned (.tuple #[])∧∃ a f,DryS w' M code a f h ls
  | none=>e = .panicked [{ v := .iface u p,recovered:=false }]
def atM (M:Nat) (w:World):Nat:=match w.cell? ⟨M,1,none⟩ with
 | some v=>(intOf v).toNat
 | none=>0
theorem atM_of {w:World} {M:Nat} {n:Int} (h:w.cell? ⟨M,1,none⟩=some (.int .i64 n)):atM M w=n.toNat:=by
 unfold atM;rw[h];rfl
theorem dst_bd {x:List UInt8} {h h':Nat} {ls ls':List Nat} (hh:h≤16) (e:Sp.dst x h ls=some (h',ls')):h'≤16:=by
 unfold Sp.dst at e
 split at e
 ·split at e
  ·cases e
  ·injection e with e;injection e with e1 e2;omega
 ·split at e
  ·split at e
   ·split at e
    ·injection e with e;injection e with e1 e2;omega
    ·cases e
   ·cases e
  ·split at e
   ·cases e
   ·split at e
    ·injection e with e;injection e with e1 e2;omega
    ·cases e
theorem dst_len {x:List UInt8} {h h':Nat} {ls ls':List Nat} (hx:x=[93]→ls≠[]) (e:Sp.dst x h ls=some (h',ls')):(ls'.length:Int)=ls.length+Sp.ds x:=by
 unfold Sp.dst at e
 split at e
 ·rename_i c
  subst c
  split at e
  ·cases e
  ·injection e with e;injection e with e1 e2;subst e2;simp[Sp.ds]
 ·split at e
  ·rename_i c1 c2
   subst c2
   have hne:=hx rfl
   have hl:0 < ls.length:=List.length_pos_iff.2 hne
   split at e
   ·split at e
    ·injection e with e;injection e with e1 e2;subst e2;simp[Sp.ds];omega
    ·cases e
   ·cases e
  ·rename_i c1 c2
   rw[Sp.ds_none c1 c2]
   split at e
   ·cases e
   ·split at e
    ·injection e with e;injection e with e1 e2;subst e2;omega
    ·cases e
theorem dead_end {G:Prop} (P:Program) (w:World) (h:G):wpAny P .text #[] (fun _ _ _=>True) 0 #[] { tmps := #[],defers:=[] } w→G:=fun _=>h
theorem cfe {P : Program} {f : FuncId} {fn : Func} (hf : P.funcs[f]? = some fn) (hn : (fn.name == "runtime.NumGoroutine") = false) (hb : fn.body.isNone = false) (args : Array Value) (w : World) : (callFunc f args).run P w = .ok (.enter f args) w := by
 unfold callFunc
 have hn' : ¬ fn.name = "runtime.NumGoroutine" := by simpa using hn
 have hb':¬ fn.body=none:=by intro e;rw[e] at hb;cases hb
 simp[go_sem,hf,hn',hb',hb]
theorem words_enter:(k:Nat)→k < 25→∀ (args:Array Value) (w:World),(callFunc (wfn[k]!) args).run Tryz.prog w = .ok (.enter (wfn[k]!) args) w
 | 0,_=>cfe Tryz.func172 (by kernel_rfl) (by kernel_rfl)
 | 1,_=>cfe Tryz.func174 (by kernel_rfl) (by kernel_rfl)
 | 2,_=>cfe Tryz.func175 (by kernel_rfl) (by kernel_rfl)
 | 3,_=>cfe Tryz.func176 (by kernel_rfl) (by kernel_rfl)
 | 4,_=>cfe Tryz.func177 (by kernel_rfl) (by kernel_rfl)
 | 5,_=>cfe Tryz.func178 (by kernel_rfl) (by kernel_rfl)
 | 6,_=>cfe Tryz.func179 (by kernel_rfl) (by kernel_rfl)
 | 7,_=>cfe Tryz.func180 (by kernel_rfl) (by kernel_rfl)
 | 8,_=>cfe Tryz.func181 (by kernel_rfl) (by kernel_rfl)
 | 9,_=>cfe Tryz.func182 (by kernel_rfl) (by kernel_rfl)
 | 10,_=>cfe Tryz.func184 (by kernel_rfl) (by kernel_rfl)
 | 11,_=>cfe Tryz.func185 (by kernel_rfl) (by kernel_rfl)
 | 12,_=>cfe Tryz.func186 (by kernel_rfl) (by kernel_rfl)
 | 13,_=>cfe Tryz.func188 (by kernel_rfl) (by kernel_rfl)
 | 14,_=>cfe Tryz.func189 (by kernel_rfl) (by kernel_rfl)
 | 15,_=>cfe Tryz.func191 (by kernel_rfl) (by kernel_rfl)
 | 16,_=>cfe Tryz.func192 (by kernel_rfl) (by kernel_rfl)
 | 17,_=>cfe Tryz.func193 (by kernel_rfl) (by kernel_rfl)
 | 18,_=>cfe Tryz.func194 (by kernel_rfl) (by kernel_rfl)
 | 19,_=>cfe Tryz.func196 (by kernel_rfl) (by kernel_rfl)
 | 20,_=>cfe Tryz.func197 (by kernel_rfl) (by kernel_rfl)
 | 21,_=>cfe Tryz.func198 (by kernel_rfl) (by kernel_rfl)
 | 22,_=>cfe Tryz.func199 (by kernel_rfl) (by kernel_rfl)
 | 23,_=>cfe Tryz.func201 (by kernel_rfl) (by kernel_rfl)
 | 24,_=>cfe Tryz.func203 (by kernel_rfl) (by kernel_rfl)
 | n+25,h=>absurd h (by omega)
theorem Fn.enter {w:World} {M:Nat} {x:List UInt8} {F:Nat} {caps:Array Value} (h:Fn w M x (.func (.func F) #[] caps)) (args:Array Value) (W:World):(callFunc F args).run Tryz.prog W = .ok (.enter F args) W:=by
 rcases h with ⟨B,n,_,e,_⟩ | ⟨k,hk,_,e⟩
 ·injection e with e1 e2 e3
  injection e1 with e1
  subst e1
  exact cfe Tryz.func300 (by kernel_rfl) (by kernel_rfl) args W
 ·unfold wordFn at e
  injection e with e1 e2 e3
  injection e1 with e1
  subst e1
  exact words_enter k hk args W
theorem Fn.calls {w:World} {M:Nat} {x:List UInt8} {F:Nat} {caps:Array Value} (h:Fn w M x (.func (.func F) #[] caps)) {at' fuel hh:Nat} {code:Value} {ls:List Nat} {u:TypeId} {p:Value} {W:World} (hk:KeptTo M w W) (hd:DryS W M code at' fuel hh ls) (hv:DryEnv M hh u p W) (hl:ls.length≤10000) (hx:x=[93]→ls≠[]) :
  Calls Tryz.prog F (#[.pointer (some ⟨M,0,none⟩)]++caps) W (WPost (Sp.dst x hh ls) M at' fuel code u p W):=by
 rcases h with ⟨B,n,hB,e,hn,hnum⟩ | ⟨k,hk',hxk,e⟩
 ·injection e with e1 e2 e3
  injection e1 with e1
  subst e1 e3
  exact word_num hnum B M at' fuel hh code ls u p W hd hv ((kept_cell hk hB).trans hn.cell)
 ·unfold wordFn at e
  injection e with e1 e2 e3
  injection e1 with e1
  subst e1 e3 hxk
  exact word_all k hk' M at' fuel hh code ls u p W hd hv hl hx
structure RunInv (L:List (List UInt8)) (M:Nat) (code:Value) (w wr:World) (i h:Nat) (ls:List Nat):Prop where
 le:i≤L.length
 dry:DryS wr M code i (L.length - i) h ls
 run:Sp.drun L 0 []=Sp.drun (L.drop i) h ls
 fm:Sp.fmd true (L.drop i) ls.length=true
 len:ls.length≤i
 hh:h≤16
 kept:KeptTo M w wr
theorem run_any (L:List (List UInt8)) (M g cap:Nat) (u:TypeId) (p:Value) (w:World) (hl:L.length≤4000) (hd:DryS w M (.slice (some ⟨g,0,none⟩) L.length cap) 0 L.length 0 []) (hr:Hid (CodeRow w M g L)) (hf:Hid (Sp.fmd true L 0=true)) (hM:5 < M) (he:w.cell? ⟨5,0,none⟩=some (.iface u p)) :
  Calls Tryz.prog 125 #[.pointer (some ⟨M,0,none⟩)] w (RPost (Sp.drun L 0 []) M (.slice (some ⟨g,0,none⟩) L.length cap) u p w):=by
 generalize hO:RPost (Sp.drun L 0 []) M (.slice (some ⟨g,0,none⟩) L.length cap) u p w=O
 replace hO:=hde hO
 have HE:=hde he
 clear he
 go_enter Tryz.func125,Tryz.ntmps125
 go_wp2_with fail
 go_loopw [] (fun wr=>∃ (i h:Nat) (ls:List Nat),Hid (RunInv L M (.slice (some ⟨g,0,none⟩) L.length cap) w wr i h ls)) (fun wr=>L.length - atM M wr)
 case atStart=>exact⟨0,0,[],⟨Nat.zero_le _,hd,rfl,uh hf,Nat.le_refl _,by omega,Below.refl _ _⟩⟩
 case round =>
  obtain⟨i,h,ls,HI⟩:=hrel
  have hi:=(uh HI).le
  obtain⟨x,hx,hrow⟩:=(uh HI).dry
  have HROW:=hde hrow
  have e0:=hx.c0
  have e1:=hx.c1
  have e2:=hx.c2
  have f2:=hx.fz 2
  have HX:=hde hx
  clear hx hrow hd
  have g0:(0:Int)≤(i:Int):=Int.natCast_nonneg _
  by_cases c:i < L.length
  ·have c1:(i:Int) < (L.length:Int):=by omega
   obtain⟨q,hq,HQ⟩:∃ q,L.length - i=q+1∧Hid (L.length - i=q+1):=⟨L.length - i - 1,by omega,hde (by omega)⟩
   rw[hq] at e2
   have c2:((((q+1:Nat)):Int) == 0)=false:=beq_eq_false_iff_ne.2 (by omega)
   have c3:((q+1:Nat):Int) - 1=(q:Int):=by omega
   have c4:q≤4000:=by omega
   obtain⟨fv,hfv,hfn⟩:=(uh hr).2 i c
   have hgM:=(uh hr).1
   have e3:wr.cell? ⟨g,i * 2,none⟩=some fv:=(kept_cell (uh HI).kept hgM).trans hfv
   have hgm:M≠g:=by omega
   clear hq
   obtain⟨F,caps,rfl⟩:∃ F caps,fv = .func (.func F) #[] caps:=by
    rcases hfn with ⟨B,n,_,rfl,_⟩ | ⟨k,_,_,rfl⟩
    ·exact⟨_,_,rfl⟩
    ·exact⟨_,_,rfl⟩
   have HFN:=hde hfn
   have hcf:=hfn.enter
   clear hfn hfv
   have HC:Hid (∀ k,Calls Tryz.prog F (#[.pointer (some ⟨M,0,none⟩)]++caps) (((wr.drewN k).setCell ⟨M,2,none⟩ (.int .i64 (q:Int))).drew) (WPost (Sp.dst L[i] h ls) M i q (.slice (some ⟨g,0,none⟩) L.length cap) u p (((wr.drewN k).setCell ⟨M,2,none⟩ (.int .i64 (q:Int))).drew))):=by
    show ∀ k,_
    intro k
    have hI:=uh HI
    have hbk:=below_drewN wr k
    have hdk:DryS (wr.drewN k) M (.slice (some ⟨g,0,none⟩) L.length cap) i (L.length - i) h ls:=hI.dry.drewN k
    have hfm:=hI.fm
    rw[List.drop_eq_getElem_cons c] at hfm
    refine(uh HFN).calls (KeptTo.set (hI.kept.trans (hbk.mono (Nat.le_of_lt (uh HX).lt))) _ _).drew ((hdk.fue q).drew) ⟨by omega,?_,hI.hh⟩ (by have:=hI.len;omega) ?_
    ·rw[← uh HE]
     exact kept_cell ((KeptTo.set (hI.kept.trans (hbk.mono (Nat.le_of_lt (uh HX).lt))) _ _).drew) hM
    ·intro h93 he
     obtain⟨_,h2,_⟩:=Sp.fmd_cons hfm
     rw[h93,he,show Sp.ds [93] = -1 by decide] at h2
     simp at h2
   have hdr:Hid (∀ h' ls',Sp.dst L[i] h ls=some (h',ls')→Sp.drun (L.drop i) h ls=Sp.drun (L.drop (i+1)) h' ls'):=by
    show ∀ h' ls',_
    intro h' ls' e
    rw[List.drop_eq_getElem_cons c,Sp.drun,e]
   have hdn:Hid (Sp.dst L[i] h ls=none→Sp.drun (L.drop i) h ls=none):=by
    show _→_
    intro e
    rw[List.drop_eq_getElem_cons c,Sp.drun,e]
   cases hD:Sp.dst L[i] h ls with
   | none =>
    rw[hD] at HC
    have HP:Hid (∀ k w1,KeptTo M (((wr.drewN k).setCell ⟨M,2,none⟩ (.int .i64 (q:Int))).drew) w1→O (.panicked [{ v := .iface u p,recovered:=false }]) w1):=by
     show ∀ k w1,_
     intro k w1 hk
     have hI:=uh HI
     have hbk:=below_drewN wr k
     rw[← uh hO,hI.run,uh hdn hD]
     exact⟨((KeptTo.set (hI.kept.trans (hbk.mono (Nat.le_of_lt (uh HX).lt))) _ _).drew).trans hk,rfl⟩
    clear hD
    go_wp2_with fail
    go_quiet (fail)
    go_wp2_with fail
    go_region_with (refine(uh HC _).mono ?_;rintro e w1 ⟨hk1,rfl⟩;refine dead_end Tryz.prog w1 ⟨rfl,uh HP _ w1 hk1⟩ ?_)
    all_goals trivial
   | some hl' =>
    obtain⟨h',ls'⟩:=hl'
    rw[hD] at HC
    have HN:Hid (∀ k w1,KeptTo M (((wr.drewN k).setCell ⟨M,2,none⟩ (.int .i64 (q:Int))).drew) w1→DryS w1 M (.slice (some ⟨g,0,none⟩) L.length cap) i q h' ls'→RunInv L M (.slice (some ⟨g,0,none⟩) L.length cap) w (w1.setCell ⟨M,1,none⟩ (.int .i64 ((i+1:Nat):Int))) (i+1) h' ls'):=by
     show ∀ k w1,_
     intro k w1 hk hd
     have hI:=uh HI
     have hbk:=below_drewN wr k
     have hQ:=uh HQ
     have hfm:=hI.fm
     rw[List.drop_eq_getElem_cons c] at hfm
     obtain⟨_,h2,h3⟩:=Sp.fmd_cons hfm
     have hx93:L[i]=[93]→ls≠[]:=by
      intro h93 he
      rw[h93,he,show Sp.ds [93] = -1 by decide] at h2
      simp at h2
     have hln:=dst_len hx93 hD
     have hds:=Sp.ds_bd L[i]
     have hlen:=hI.len
     refine⟨by omega,?_,hI.run.trans (uh hdr h' ls' hD),by rw[hln];exact h3,by omega,dst_bd hI.hh hD,KeptTo.set (((KeptTo.set (hI.kept.trans (hbk.mono (Nat.le_of_lt (uh HX).lt))) _ _).drew).trans hk) _ _⟩
     rw[show L.length - (i+1)=q by omega]
     exact hd.att (i+1)
    clear hD
    go_wp2_with fail
    go_quiet (fail)
    go_wp2_with fail
    go_region_with (refine(uh HC _).mono ?_;rintro e w1 ⟨hk1,rfl,hd1⟩)
    all_goals
     have HI2:Hid (RunInv L M (.slice (some ⟨g,0,none⟩) L.length cap) w (w1.setCell ⟨M,1,none⟩ (.int .i64 ((i+1:Nat):Int))) (i+1) h' ls'):=uh HN _ w1 hk1 hd1
     obtain⟨x1,hx1,_⟩:=hd1
     have j1:=hx1.c1
     have j2:=hx1.fz 1
     have j3:wrap64 ((i:Int)+1)=((i+1:Nat):Int):=by unfold wrap64;omega
     clear hx1 hk1
     go_wp2
     go_roundw
     case rel=>exact⟨i+1,h',ls',HI2⟩
     case measure =>
      have a1:=atM_of e1
      have a2:=atM_of (World.cell?_setCell_same w1 ⟨M,1,none⟩ (.int .i64 ((i:Int)+1)) j1)
      rw[a1,a2]
      omega
  ·have c1:¬ (i:Int) < (L.length:Int):=by omega
   have ei:i=L.length:=by omega
   go_wp2_with fail
   go_quiet (fail)
   go_wp2
   refine bodyPost_end (results_none rfl _ _ _) rfl ?_
   have hI:=uh HI
   rw[← uh hO,hI.run,ei,List.drop_of_length_le nlr]
   exact⟨hI.kept.trans ((below_drewN wr nq).mono (Nat.le_of_lt (uh HX).lt)),rfl,_,_,hI.dry.drewN nq⟩
namespace Sp
def rst (x:List UInt8) (i:Nat) (ms op:List Nat):Option (List Nat × List Nat):=
 if x=[91] then some (ms++[0],op++[i])
 else if x=[93] then (match op.getLast? with | some l=>some (((ms++[0]).set i l).set l i,op.dropLast) | none=>none)
 else some (ms++[0],op)
def rdTo (L:List (List UInt8)):Nat→Option (List Nat × List Nat)
 | 0=>some ([],[])
 | i+1=>match rdTo L i with
  | none=>none
  | some (ms,op)=>rst (L.getD i []) i ms op
theorem rst_len {x:List UInt8} {i:Nat} {ms op ms' op':List Nat} (h:rst x i ms op=some (ms',op')):ms'.length=ms.length+1∧(op'.length:Int)=op.length+ds x:=by
 unfold rst at h
 split at h
 ·rename_i c
  subst c
  injection h with h;injection h with h1 h2;subst h1 h2;simp[ds]
 ·split at h
  ·rename_i c1 c2
   subst c2
   split at h
   ·rename_i l hl
    injection h with h;injection h with h1 h2;subst h1 h2
    have:op≠[]:=by rintro rfl;cases hl
    have:=List.length_pos_iff.2 this
    simp[ds];omega
   ·cases h
  ·rename_i c1 c2
   injection h with h;injection h with h1 h2;subst h1 h2
   rw[ds_none c1 c2];simp
end Sp
def cz:List Value→List Nat→List Value
 | f :: fs,m :: ms=>f :: .int .i64 m :: cz fs ms
 | _,_=>[]
theorem cz_app:∀ (fs:List Value) (ms:List Nat) (f:Value) (m:Nat),fs.length=ms.length→cz (fs++[f]) (ms++[m])=cz fs ms++[f,.int .i64 m]:=by
 intro fs
 induction fs with
 | nil=>intro ms f m h;cases ms with
  | nil=>rfl
  | cons a b=>cases h
 | cons f' fs ih =>
  intro ms f m h
  cases ms with
  | nil=>cases h
  | cons m' ms=>simp only[List.cons_append,cz];rw[ih ms f m (by simpa using h)]
theorem cz_set:∀ (fs:List Value) (ms:List Nat) (j m:Nat),fs.length=ms.length→(cz fs ms).set (j * 2+1) (.int .i64 m)=cz fs (ms.set j m):=by
 intro fs
 induction fs with
 | nil=>intro ms j m h;cases ms with
  | nil=>rfl
  | cons a b=>cases h
 | cons f fs ih =>
  intro ms j m h
  cases ms with
  | nil=>cases h
  | cons m' ms =>
   cases j with
   | zero=>simp[cz]
   | succ j =>
    rw[show (j+1) * 2+1=(j * 2+1)+1+1 by omega]
    simp only[cz,List.set_cons_succ]
    rw[ih ms j m (by simpa using h)]
theorem cz_fn:∀ (fs:List Value) (ms:List Nat) (j:Nat),fs.length=ms.length→(cz fs ms)[j * 2]? = fs[j]?:=by
 intro fs
 induction fs with
 | nil=>intro ms j h;cases ms <;> simp[cz]
 | cons f fs ih =>
  intro ms j h
  cases ms with
  | nil=>cases h
  | cons m ms =>
   cases j with
   | zero=>simp[cz]
   | succ j =>
    rw[show (j+1) * 2=(j * 2)+1+1 by omega]
    simp only[cz,List.getElem?_cons_succ]
    exact ih ms j (by simpa using h)
theorem cz_mate:∀ (fs:List Value) (ms:List Nat) (j:Nat),fs.length=ms.length→(cz fs ms)[j * 2+1]? = (ms[j]?).map (fun m=>Value.int .i64 m):=by
 intro fs
 induction fs with
 | nil=>intro ms j h;cases ms with
  | nil=>simp[cz]
  | cons a b=>cases h
 | cons f fs ih =>
  intro ms j h
  cases ms with
  | nil=>cases h
  | cons m ms =>
   cases j with
   | zero=>simp[cz]
   | succ j =>
    rw[show (j+1) * 2+1=(j * 2+1)+1+1 by omega]
    simp only[cz,List.getElem?_cons_succ]
    exact ih ms j (by simpa using h)
def FindAny (x:List UInt8) (w:World) (e:Ending) (w':World):Prop :=
 Below w.heap.size w w'∧((∃ (nm:ByteArray) (nw:Bool) (F:Nat) (caps:Array Value),e = .returned (.tuple #[.agg #[.string nm,.bool nw,.func (.func F) #[] caps],.bool true])∧Fn w' w'.heap.size x (.func (.func F) #[] caps)∧Sp.tk true x≠none∧(nw=true→Sp.tk false x=none)∧(nw=false→Sp.tk false x≠none))∨(Sp.tk true x=none∧Sp.tk false x=none∧e = .returned (.tuple #[noWord,.bool false])))
theorem findWord_any (s:ByteArray) (b:Nat) (w:World) (hs:s.size≤4000) (hW:WordsAt b w):Calls Tryz.prog 253 #[.string s,.slice (some ⟨b,0,none⟩) 25 25] w (FindAny s.data.toList w):=by
 cases hn:Sp.number s.data.toList with
 | some n =>
  refine(findWord_num s _ w hs n hn).mono ?_
  rintro e w' ⟨B,h1,h2,rfl,h3⟩
  have h4:B < w'.heap.size:=(Array.getElem?_eq_some_iff.1 h2).1
  refine⟨h3,Or.inl ⟨_,_,_,_,rfl,Or.inl ⟨B,n,h4,rfl,h2,hn⟩,?_,?_,?_⟩⟩
  ·rw[Sp.tk_num hn];intro e;cases e
  ·intro e;cases e
  ·intro _;rw[Sp.tk_num hn];intro e;cases e
 | none =>
  refine(findWord_else s b w hs hW hn).mono ?_
  rintro e w' ⟨h3,⟨k,hk,hx,rfl⟩ | ⟨hx,rfl⟩⟩
  ·refine⟨h3,Or.inl ⟨_,_,_,_,rfl,Or.inr ⟨k,hk,hx.symm,rfl⟩,?_,?_,?_⟩⟩
   ·rw[← hx,Sp.tk_true k hk];intro e;cases e
   ·intro h8
    rw[← hx,Sp.tk_false k hk]
    rw[if_pos (by simpa [wordWt] using h8)]
   ·intro h8
    rw[← hx,Sp.tk_false k hk]
    rw[if_neg (by simpa [wordWt] using h8)]
    intro e;cases e
  ·exact⟨h3,Or.inr ⟨Sp.tk_none hn hx,Sp.tk_none hn hx,rfl⟩⟩
end Go.Proofs.YteflnddphpjahaaGreatDoor
