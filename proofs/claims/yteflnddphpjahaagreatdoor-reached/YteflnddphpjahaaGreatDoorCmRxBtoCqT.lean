import Derived.Test.YteflnddphpjahaaGreatDoorCmRxAtoPlQ
import Derived.Test.YteflnddphpjahaaGreatDoorCmSrtLtoRsA
import Derived.KernelRfl
import Derived.Test.YteflnddphpjahaaGreatDoorCmPlAtoRefA
import Derived.Deep.RegionLaw
import Derived.Deep.AppendLies
import Derived.Test.YteflnddphpjahaaGreatDoorCmCqS
set_option linter.unusedVariables false
set_option linter.unusedSimpArgs false
set_option maxRecDepth 100000
set_option maxHeartbeats 16000000
namespace Go.Proofs.YteflnddphpjahaaGreatDoor.Sp
open Go Go.RowKit
def cN:List (List UInt8):=[[118,97,108,117,101],[105,110],[109,105,110]]
def cG:List (List UInt8):=[[118,97,108,117,101],[49,48,48,48,48,48,48,48,48,48],[60],[115,116,101,112],[48],[61],[118,97,108,117,101],[111,108,100],[60],[109,97,120],[42]]
def cM:List (List UInt8):=[[118,97,108,117,101],[119,101,105,103,104,116],[43]]
def cO:List (List UInt8):=[[49]]
theorem ev_cN (E:Ev):ev cN E=some (min E.value E.inn):=by kernel_rfl
theorem ev_cM (E:Ev):ev cM E=some (wrap64 (E.value+E.weight)):=by kernel_rfl
theorem ev_cO (E:Ev):ev cO E=some 1:=by kernel_rfl
theorem ev_cG (E:Ev):ev cG E=some (wrap64 ((if E.value < 1000000000 then 1 else 0) * max (if E.step=0 then (1:Int) else 0) (if E.value < E.old then 1 else 0))):=by kernel_rfl
structure IsReach (P:Pg):Prop where
 c0:P.code 0=cN
 c1:P.code 1=cG
 c2:P.code 2=cM
 c3:P.code 3=cO
 c4:P.code 4=cO
 by':P.by'=[109,105,110]
theorem goes_cG (E:Ev):∃ g,ev cG E=some g∧(g=0↔¬ (E.value < 1000000000∧(E.step=0∨E.value < E.old))):=by
 refine⟨_,ev_cG E,?_⟩
 by_cases h1:E.value < 1000000000
 ·by_cases h2:E.step=0
  ·by_cases h3:E.value < E.old
   ·rw[if_pos h1,if_pos h2,if_pos h3];exact⟨fun h=>absurd h (by unfold wrap64;decide),fun h=>absurd ⟨h1,Or.inl h2⟩ h⟩
   ·rw[if_pos h1,if_pos h2,if_neg h3];exact⟨fun h=>absurd h (by unfold wrap64;decide),fun h=>absurd ⟨h1,Or.inl h2⟩ h⟩
  ·by_cases h3:E.value < E.old
   ·rw[if_pos h1,if_neg h2,if_pos h3];exact⟨fun h=>absurd h (by unfold wrap64;decide),fun h=>absurd ⟨h1,Or.inr h3⟩ h⟩
   ·rw[if_pos h1,if_neg h2,if_neg h3];exact⟨fun _ h=>h.2.elim h2 h3,fun _=>by unfold wrap64;decide⟩
 ·rw[if_neg h1,Int.zero_mul];exact⟨fun _ h=>h1 h.1,fun _=>by unfold wrap64;decide⟩
theorem msgs_cM (E:Ev):∀ (es:List Ed),msgs cM E es=some (es.map fun x=>(x.to,wrap64 (E.value+x.n))):=by
 intro es
 induction es with
 | nil=>rfl
 | cons x r ih =>
  simp only[msgs,ev_cM,ih]
  rfl
theorem turn_reach {P:Pg} (hP:IsReach P) {Es:List Ed} {c:Cfg} {i step:Nat} {x y v:Int} (hx:c.val.getD i 0=x) (hy:c.inn.getD i 0=y) (hv:min x y=v) {q:Prop} (hq:(v < 1000000000∧(step=0∨v < x))↔q) :
  ∃ t,turn P Es c i step=some t∧t.value=v∧t.rests=true∧(q→t.sent=(outE Es i).map fun e=>(e.to,wrap64 (v+e.n)))∧(¬ q→t.sent=[]):=by
 have hE:ev (P.code 0) (env0 c (outE Es i).length i step)=some v:=by
  rw[hP.c0,ev_cN]
  show some (min (c.val.getD i 0) (c.inn.getD i 0))=_
  rw[hx,hy,hv]
 obtain⟨g,hg,hg0⟩:=goes_cG ((env0 c (outE Es i).length i step).setV v)
 have hg1:g=0↔¬ q:=by
  rw[hg0,← hq]
  show ¬ (v < 1000000000∧((step:Int)=0∨v < c.val.getD i 0))↔_
  rw[hx]
  have:(step:Int)=0↔step=0:=by omega
  rw[this]
 unfold turn turnE
 rw[hE]
 simp only
 rw[hP.c1,hg]
 simp only
 rw[hP.c2,msgs_cM]
 by_cases c0:g=0
 ·rw[if_pos c0]
  simp only[tail34]
  rw[hP.c3,hP.c4,ev_cO]
  exact⟨_,rfl,rfl,rfl,fun h=>absurd h (hg1.1 c0),fun _=>rfl⟩
 ·rw[if_neg c0]
  simp only[tail34]
  rw[hP.c3,hP.c4,ev_cO]
  exact⟨_,rfl,rfl,rfl,fun _=>rfl,fun h=>absurd (hg1.2 h) c0⟩
theorem wrap_in {x:Int} (h1:0≤x) (h2:x≤2000000000):wrap64 x=x:=by
 unfold wrap64;omega
theorem stp_reach {P:Pg} (hP:IsReach P) {Es:List Ed} {n:Nat} (hE:EdOk Es n) {c:Cfg} {step:Nat} {d d':Nat→Int} {T:Nat→Prop} (hval:c.val=(List.range n).map d)
  (hin:∀ i,i < n→(awake c i step=true∧min (d i) (c.inn.getD i 0)=d' i∧((d' i < 1000000000∧(step=0∨d' i < d i))↔T i))∨(awake c i step=false∧d' i=d i∧c.rst.getD i false=true∧¬ T i))
  (hd:∀ i,0≤d' i∧d' i≤1000000000) :
  ∀ k,k≤n→∃ a,stp P Es c step k = .ok a∧a.val=(List.range k).map d'∧a.rst=List.replicate k true∧∀ m,m ∈ a.sent↔∃ e,e ∈ Es∧e.frm < k∧T e.frm∧m=(e.to,d' e.frm+e.n):=by
 intro k
 induction k with
 | zero =>
  intro _
  refine⟨_,rfl,rfl,rfl,fun m=>⟨fun h=>(by cases h),?_⟩⟩
  rintro⟨e,_,h,_⟩
  omega
 | succ k ih =>
  intro hk
  obtain⟨a,ha,h1,h2,h3⟩:=ih (by omega)
  have hgv:c.val.getD k 0=d k:=by
   rw[hval,List.getD_eq_getElem?_getD,List.getElem?_map,List.getElem?_range (by omega)];rfl
  simp only[stp,ha]
  rcases hin k (by omega) with ⟨g1,g2,g3⟩ | ⟨g1,g2,g3,g4⟩
  ·rw[if_pos g1]
   obtain⟨t,t1,t2,t3,t4,t5⟩:=turn_reach hP (Es:=Es) hgv rfl g2 g3
   rw[t1]
   refine⟨_,rfl,?_,?_,fun m=>?_⟩
   ·rw[h1,t2,List.range_succ,List.map_append];rfl
   ·rw[h2,t3,List.replicate_succ']
   ·rw[List.mem_append,h3]
    by_cases hT:T k
    ·rw[t4 hT]
     constructor
     ·rintro(⟨e,e1,e2,e3,e4⟩ | h)
      ·exact⟨e,e1,by omega,e3,e4⟩
      ·obtain⟨e,he,rfl⟩:=List.mem_map.1 h
       obtain⟨e1,e2⟩:=List.mem_filter.1 he
       have e3:e.frm=k:=by simpa using e2
       have hb:=hE.b e e1
       have hdk:=hd k
       refine⟨e,e1,by omega,by rw[e3];exact hT,?_⟩
       rw[wrap_in (by omega) (by omega),e3]
     ·rintro⟨e,e1,e2,e3,rfl⟩
      by_cases hk':e.frm < k
      ·exact Or.inl ⟨e,e1,hk',e3,rfl⟩
      ·have e4:e.frm=k:=by omega
       have hb:=hE.b e e1
       have hdk:=hd k
       refine Or.inr (List.mem_map.2 ⟨e,List.mem_filter.2 ⟨e1,by simp[e4]⟩,?_⟩)
       rw[wrap_in (by omega) (by omega),e4]
    ·rw[t5 hT]
     constructor
     ·rintro(⟨e,e1,e2,e3,e4⟩ | h)
      ·exact⟨e,e1,by omega,e3,e4⟩
      ·cases h
     ·rintro⟨e,e1,e2,e3,rfl⟩
      have:e.frm≠k:=fun h=>hT (by rw[← h];exact e3)
      exact Or.inl ⟨e,e1,by omega,e3,rfl⟩
  ·rw[if_neg (by rw[g1];decide)]
   refine⟨_,rfl,?_,?_,fun m=>?_⟩
   ·rw[h1,hgv,← g2,List.range_succ,List.map_append];rfl
   ·rw[h2,g3,List.replicate_succ']
   ·rw[h3]
    constructor
    ·rintro⟨e,e1,e2,e3,e4⟩
     exact⟨e,e1,by omega,e3,e4⟩
    ·rintro⟨e,e1,e2,e3,rfl⟩
     have:e.frm≠k:=fun h=>g4 (by rw[← h];exact e3)
     exact⟨e,e1,by omega,e3,rfl⟩
theorem join_min (a b:Int):joinK [109,105,110] a b=if b < a then b else a:=by
 unfold joinK
 rw[if_neg (by decide)]
 by_cases h:b < a
 ·rw[if_pos (Or.inl ⟨rfl,h⟩),if_pos h]
 ·rw[if_neg (by rintro(⟨_,h'⟩ | ⟨h',_⟩);exact h h';exact absurd h' (by decide)),if_neg h]
theorem fold_min:∀ (l:List (Nat × Int)) (a:Int),l.foldl (fun x m=>joinK [109,105,110] x m.2) a≤a∧(∀ m ∈ l,l.foldl (fun x m=>joinK [109,105,110] x m.2) a≤m.2)∧(l.foldl (fun x m=>joinK [109,105,110] x m.2) a=a∨∃ m,m ∈ l∧l.foldl (fun x m=>joinK [109,105,110] x m.2) a=m.2):=by
 intro l
 induction l with
 | nil=>intro a;exact⟨Int.le_refl _,fun m hm=>(by cases hm),Or.inl rfl⟩
 | cons x r ih =>
  intro a
  obtain⟨h1,h2,h3⟩:=ih (joinK [109,105,110] a x.2)
  have hj:joinK [109,105,110] a x.2≤a∧joinK [109,105,110] a x.2≤x.2∧(joinK [109,105,110] a x.2=a∨joinK [109,105,110] a x.2=x.2):=by
   rw[join_min];split <;> omega
  simp only[List.foldl_cons]
  refine⟨by omega,fun m hm=>?_,?_⟩
  ·rcases List.mem_cons.1 hm with rfl | hm
   ·omega
   ·exact h2 m hm
  ·rcases h3 with h3 | ⟨m,h4,h5⟩
   ·rcases hj.2.2 with h6 | h6
    ·exact Or.inl (h3.trans h6)
    ·exact Or.inr ⟨x,List.mem_cons_self ..,h3.trans h6⟩
   ·exact Or.inr ⟨m,List.mem_cons_of_mem _ h4,h5⟩
theorem inn_min {P:Pg} (hP:IsReach P) (S:List (Nat × Int)) (i:Nat):(∀ m ∈ S,m.1=i→innOf P S i≤m.2)∧(innOf P S i=9223372036854775807∨∃ m,m ∈ S∧m.1=i∧innOf P S i=m.2):=by
 unfold innOf
 rw[hP.by']
 obtain⟨h1,h2,h3⟩:=fold_min (toV S i) (noneK [109,105,110])
 refine⟨fun m hm hi=>h2 m (List.mem_filter.2 ⟨hm,by simp[hi]⟩),?_⟩
 rcases h3 with h3 | ⟨m,h4,h5⟩
 ·exact Or.inl h3
 ·obtain⟨h6,h7⟩:=List.mem_filter.1 h4
  exact Or.inr ⟨m,h6,by simpa using h7,h5⟩
theorem got_pos (S:List (Nat × Int)) (i:Nat):0 < gotOf S i↔∃ m,m ∈ S∧m.1=i:=by
 unfold gotOf
 constructor
 ·intro h
  have h1:0 < (toV S i).length:=by omega
  obtain⟨m,hm⟩:=List.exists_mem_of_length_pos h1
  obtain⟨h6,h7⟩:=List.mem_filter.1 hm
  exact⟨m,h6,by simpa using h7⟩
 ·rintro⟨m,h1,h2⟩
  have:0 < (toV S i).length:=List.length_pos_of_mem (List.mem_filter.2 ⟨h1,by simp[h2]⟩)
  omega
structure RInv (P:Pg) (Es:List Ed) (n k:Nat) (c:Cfg):Prop where
 val:c.val=(List.range n).map (dk Es k)
 rst:c.rst=List.replicate n true
 ex:∃ S:List (Nat × Int),(∀ m,m ∈ S↔∃ e,e ∈ Es∧e.frm < n∧chg Es k e.frm∧m=(e.to,dk Es k e.frm+e.n))∧c.got=(List.range n).map (gotOf S)∧c.inn=(List.range n).map (innOf P S)
theorem range_getD {f:Nat→Int} {n i:Nat} (h:i < n):((List.range n).map f).getD i 0=f i:=by
 rw[List.getD_eq_getElem?_getD,List.getElem?_map,List.getElem?_range h];rfl
theorem rinv_first {P:Pg} (hP:IsReach P) {Es:List Ed} {n:Nat} (hE:EdOk Es n):∃ a,stp P Es (first' P ((List.range n).map (dk Es 0))) 0 n = .ok a∧RInv P Es n 0 (nextC P n a):=by
 have h:=stp_reach hP hE (c:=first' P ((List.range n).map (dk Es 0))) (step:=0) (d:=dk Es 0) (d':=dk Es 0) (T:=chg Es 0) rfl (fun i hi=>Or.inl ⟨rfl,?_,?_⟩) (fun i=>⟨dk_nn hE 0 i,dk_far 0 i⟩) n nlr
 ·obtain⟨a,h1,h2,h3,h4⟩:=h
  exact⟨a,h1,h2,h3,a.sent,h4,rfl,rfl⟩
 ·have e:(first' P ((List.range n).map (dk Es 0))).inn.getD i 0=9223372036854775807:=by
   show (List.replicate _ (noneK P.by')).getD i 0=_
   rw[hP.by',List.getD_eq_getElem?_getD,List.getElem?_replicate,if_pos (by simpa using hi)];rfl
  rw[e]
  have:=dk_far (Es:=Es) 0 i
  omega
 ·simp only[chg,dk]
  by_cases h0:i=0
  ·simp[h0]
  ·simp[h0]
theorem aw_iff {P:Pg} {Es:List Ed} {n k:Nat} {c:Cfg} (h:RInv P Es n k c) {S:List (Nat × Int)} (hg:c.got=(List.range n).map (gotOf S)) {i:Nat} (hi:i < n):awake c i (k+1)=true↔∃ m,m ∈ S∧m.1=i:=by
 have hr:c.rst.getD i false=true:=by rw[h.rst,List.getD_eq_getElem?_getD,List.getElem?_replicate,if_pos hi];rfl
 unfold awake
 rw[hr,hg,range_getD hi]
 simp[got_pos]
theorem rinv_next {P:Pg} (hP:IsReach P) {Es:List Ed} {n k:Nat} (hE:EdOk Es n) {c:Cfg} (h:RInv P Es n k c):∃ a,stp P Es c (k+1) n = .ok a∧RInv P Es n (k+1) (nextC P n a):=by
 obtain⟨S,hS,hg,hin⟩:=h.ex
 have hr:∀ i,i < n→c.rst.getD i false=true:=fun i hi=>by rw[h.rst,List.getD_eq_getElem?_getD,List.getElem?_replicate,if_pos hi];rfl
 have hlow:∀ i,∀ m ∈ S,m.1=i→dk Es (k+1) i≤m.2:=fun i m hm hi=>by
  obtain⟨e,e1,e2,e3,rfl⟩:=(hS m).1 hm
  have:=dk_ed k e e1 (chg_far e3)
  simp only at hi ⊢
  rw[← hi];exact this
 have hH:=stp_reach hP hE (c:=c) (step:=k+1) (d:=dk Es k) (d':=dk Es (k+1)) (T:=chg Es (k+1)) h.val (fun i hi=>?_) (fun i=>⟨dk_nn hE (k+1) i,dk_far (k+1) i⟩) n nlr
 ·obtain⟨a,h1,h2,h3,h4⟩:=hH
  exact⟨a,h1,h2,h3,a.sent,h4,rfl,rfl⟩
 ·by_cases hw:awake c i (k+1)=true
  ·refine Or.inl ⟨hw,?_,?_⟩
   ·rw[hin,range_getD hi]
    obtain⟨g1,g2⟩:=inn_min hP S i
    have h1:=dk_le (Es:=Es) k i
    have h2:=dk_far (Es:=Es) (k+1) i
    have h3:dk Es (k+1) i≤innOf P S i:=by
     rcases g2 with g2 | ⟨m,m1,m2,m3⟩
     ·omega
     ·rw[m3];exact hlow i m m1 m2
    by_cases hc:chg Es (k+1) i
    ·obtain⟨e,e1,e2,e3,e4⟩:=chg_from hc
     have:=g1 _ ((hS (e.to,dk Es k e.frm+e.n)).2 ⟨e,e1,(hE.b e e1).1,e3,rfl⟩) e2
     simp only at this
     omega
    ·simp only[chg] at hc
     omega
   ·simp only[chg]
    have h2:=dk_far (Es:=Es) k i
    omega
  ·refine Or.inr ⟨by simpa using hw,?_,hr i hi,?_⟩
   ·have hc:¬ chg Es (k+1) i:=fun hc=>by
     obtain⟨e,e1,e2,e3,e4⟩:=chg_from hc
     exact hw ((aw_iff h hg hi).2 ⟨_,(hS (e.to,dk Es k e.frm+e.n)).2 ⟨e,e1,(hE.b e e1).1,e3,rfl⟩,e2⟩)
    simp only[chg] at hc
    have:=dk_le (Es:=Es) k i
    omega
   ·intro hc
    obtain⟨e,e1,e2,e3,e4⟩:=chg_from hc
    exact hw ((aw_iff h hg hi).2 ⟨_,(hS (e.to,dk Es k e.frm+e.n)).2 ⟨e,e1,(hE.b e e1).1,e3,rfl⟩,e2⟩)
theorem reach_go {P:Pg} (hP:IsReach P) {Es:List Ed} {n:Nat} (hE:EdOk Es n) (hn:0 < n) (hn8:n≤150):∀ (g k:Nat) (c:Cfg),RInv P Es n k c→1≤g→n+2≤g+(k+1)→∃ s,rgo P Es 200 g (k+1) c=⟨1,s,0,(List.range n).map (dk Es n)⟩:=by
 intro g
 induction g with
 | zero=>intro k c _ h1;omega
 | succ g ih =>
  intro k c h _ h2
  obtain⟨S,hS,hg,hin⟩:=h.ex
  have hl:c.val.length=n:=by rw[h.val];simp
  simp only[rgo]
  by_cases hq:quiet c (k+1)=true
  ·rw[if_pos hq]
   refine⟨k+1,?_⟩
   have hno:∀ v,¬ chg Es (k+1) v:=fun v hc=>by
    obtain⟨e,e1,e2,e3,e4⟩:=chg_from hc
    have hb:=hE.b e e1
    have hw:awake c v (k+1)=true:=(aw_iff h hg (by omega)).2 ⟨_,(hS (e.to,dk Es k e.frm+e.n)).2 ⟨e,e1,hb.1,e3,rfl⟩,e2⟩
    unfold quiet at hq
    rw[List.all_eq_true] at hq
    have:=hq v (List.mem_range.2 (by omega))
    rw[hw] at this
    cases this
   rw[h.val,dk_end hE hn hno]
  ·rw[if_neg hq]
   have hex:∃ i,i < n∧awake c i (k+1)=true:=by
    apply Decidable.byContradiction
    intro hne
    apply hq
    unfold quiet
    rw[List.all_eq_true]
    intro i hi
    rw[List.mem_range,hl] at hi
    cases hw:awake c i (k+1) with
    | false=>rfl
    | true=>exact absurd ⟨i,hi,hw⟩ hne
   obtain⟨i,hi,hw⟩:=hex
   obtain⟨m,m1,_⟩:=(aw_iff h hg hi).1 hw
   obtain⟨e,e1,e2,e3,_⟩:=(hS m).1 m1
   have hk:=chg_lt hE hn e3
   rw[if_neg (by omega),hl]
   obtain⟨a,ha,hr⟩:=rinv_next hP hE h
   rw[ha]
   exact ih (k+1) _ hr (by omega) (by omega)
theorem reach_run {P:Pg} (hP:IsReach P) {Es:List Ed} {n:Nat} (hE:EdOk Es n) (hn:0 < n) (hn8:n≤150):∃ s,runR P ((List.range n).map (dk Es 0)) Es 200=⟨1,s,0,(List.range n).map (dk Es n)⟩:=by
 obtain⟨a,ha,hr⟩:=rinv_first hP hE
 obtain⟨s,hs⟩:=reach_go hP hE hn hn8 200 0 _ hr (by omega) (by omega)
 refine⟨s,?_⟩
 unfold runR
 have hq:quiet (first' P ((List.range n).map (dk Es 0))) 0=false:=by
  unfold quiet
  rw[List.all_eq_false]
  refine⟨0,List.mem_range.2 (by simpa [first'] using hn),?_⟩
  simp[awake]
 have hl:(first' P ((List.range n).map (dk Es 0))).val.length=n:=by simp[first']
 rw[show (200+1:Nat)=200+1 from rfl,rgo,if_neg (by rw[hq];decide),if_neg (by omega),hl,ha]
 exact hs
end Go.Proofs.YteflnddphpjahaaGreatDoor.Sp
namespace Go.Proofs.YteflnddphpjahaaGreatDoor
open Go.RowKit
def reachT:ByteArray:=⟨#[110,101,119,58,32,118,97,108,117,101,32,105,110,32,109,105,110,10,103,111,58,32,118,97,108,117,101,32,49,48,48,48,48,48,48,48,48,48,32,60,32,115,116,101,112,32,48,32,61,32,118,97,108,117,101,32,111,108,100,32,60,32,109,97,120,32,42,10,109,115,103,58,32,118,97,108,117,101,32,119,101,105,103,104,116,32,43,10,104,97,108,116,58,32,49,10,103,105,118,101,58,32,49,10,98,121,58,32,109,105,110,10,97,108,108,58,32,115,117,109]⟩
theorem reach_comp:(Sp.comp reachT).1=0:=by kernel_rfl
theorem reach_is:Sp.IsReach (Sp.pgOf reachT):=⟨by kernel_rfl,by kernel_rfl,by kernel_rfl,by kernel_rfl,by kernel_rfl,by kernel_rfl⟩
theorem cat_reach (w:World):Calls Tryz.prog 11 #[.string ⟨#[114,101,97,99,104]⟩] w fun e w'=>e = .returned (.tuple #[.string reachT,.int .i64 0])∧w'=w:=by
 go_enter Tryz.func11,Tryz.ntmps11
 go_wp2
 exact bodyPost_ret (v := .tuple #[.string reachT,.int .i64 0]) (by simp[results,Tryz.results11,go_sem];rfl) rfl ⟨rfl,rfl⟩
end Go.Proofs.YteflnddphpjahaaGreatDoor
namespace Go.Proofs.YteflnddphpjahaaGreatDoor.Sp
open Go
theorem bt_drop {s:ByteArray} {i:Nat} {b:UInt8} {rest:List UInt8} (h:s.data.toList.drop i=b :: rest):i < s.size∧bt s i=b.toNat∧s.data.toList.drop (i+1)=rest:=by
 have hl:i < s.data.toList.length:=by
  apply Decidable.byContradiction
  intro hn
  rw[List.drop_of_length_le (by omega)] at h
  cases h
 have hs:i < s.size:=by simpa using hl
 rw[List.drop_eq_getElem_cons hl] at h
 injection h with h1 h2
 refine⟨hs,?_,h2⟩
 rw[← bt_of s i hs,← h1]
 simp[ByteArray.getElem_eq_getElem_data]
def validR (r:Nat):Prop:=r < 1114112∧(r < 55296∨57344≤r)
def en (r:Nat):List UInt8 :=
 if r < 128 then [UInt8.ofNat r]
 else if r < 2048 then [UInt8.ofNat (192+r / 64),UInt8.ofNat (128+r % 64)]
 else if r < 65536 then [UInt8.ofNat (224+r / 4096),UInt8.ofNat (128+r / 64 % 64),UInt8.ofNat (128+r % 64)]
 else [UInt8.ofNat (240+r / 262144),UInt8.ofNat (128+r / 4096 % 64),UInt8.ofNat (128+r / 64 % 64),UInt8.ofNat (128+r % 64)]
theorem ofNat_toNat {n:Nat} (h:n < 256):(UInt8.ofNat n).toNat=n:=by simp;omega
theorem dec_en {s:ByteArray} {i r:Nat} {rest:List UInt8} (hr:validR r) (h:s.data.toList.drop i=en r++rest) :
  Utf8.decode s i=(r,(en r).length)∧i < s.size∧s.data.toList.drop (i+(en r).length)=rest∧bt s i=(if r < 128 then r else if r < 2048 then 192+r / 64 else if r < 65536 then 224+r / 4096 else 240+r / 262144):=by
 obtain⟨hr1,hr2⟩:=hr
 rw[dec]
 unfold en at h ⊢
 by_cases c1:r < 128
 ·rw[if_pos c1] at h ⊢
  obtain⟨h1,h2,h3⟩:=bt_drop h
  rw[ofNat_toNat (by omega)] at h2
  simp only[Lib.decodeN]
  rw[if_pos (by omega),if_pos c1]
  exact⟨by rw[h2];rfl,h1,h3,h2⟩
 ·rw[if_neg c1] at h ⊢
  by_cases c2:r < 2048
  ·rw[if_pos c2] at h ⊢
   obtain⟨h1,h2,h3⟩:=bt_drop h
   obtain⟨k1,k2,k3⟩:=bt_drop h3
   rw[ofNat_toNat (by omega)] at h2 k2
   simp only[Lib.decodeN]
   rw[if_neg c1,if_pos c2]
   refine⟨?_,h1,k3,h2⟩
   rw[h2,k2,if_neg (by omega),if_pos (by omega),if_pos (by omega)]
   exact Prod.ext (by show _=r;omega) rfl
  ·rw[if_neg c2] at h ⊢
   by_cases c3:r < 65536
   ·rw[if_pos c3] at h ⊢
    obtain⟨h1,h2,h3⟩:=bt_drop h
    obtain⟨k1,k2,k3⟩:=bt_drop h3
    obtain⟨m1,m2,m3⟩:=bt_drop k3
    rw[ofNat_toNat (by omega)] at h2 k2 m2
    simp only[Lib.decodeN]
    rw[if_neg c1,if_neg c2,if_pos c3]
    refine⟨?_,h1,m3,h2⟩
    rw[show i+1+1=i+2 by omega] at m1 m2
    rw[h2,k2,m2,if_neg (by omega),if_neg (by omega),if_pos (by omega),if_pos (by omega)]
    exact Prod.ext (by show _=r;omega) rfl
   ·rw[if_neg c3] at h ⊢
    obtain⟨h1,h2,h3⟩:=bt_drop h
    obtain⟨k1,k2,k3⟩:=bt_drop h3
    obtain⟨m1,m2,m3⟩:=bt_drop k3
    obtain⟨n1,n2,n3⟩:=bt_drop m3
    rw[ofNat_toNat (by omega)] at h2 k2 m2 n2
    simp only[Lib.decodeN]
    rw[if_neg c1,if_neg c2,if_neg c3]
    refine⟨?_,h1,n3,h2⟩
    rw[show i+1+1=i+2 by omega] at m1 m2 n1 n2
    rw[show i+2+1=i+3 by omega] at n1 n2
    rw[h2,k2,m2,n2,if_neg (by omega),if_neg (by omega),if_neg (by omega),if_pos (by omega),if_pos (by omega)]
    exact Prod.ext (by show _=r;omega) rfl
theorem en_ascii {r:Nat} (h:r < 128):en r=[UInt8.ofNat r]:=by unfold en;rw[if_pos h]
def Goes (s:ByteArray) (i j:Nat):Prop := ∀ C:Nat→Prop,C j→(∀ k,k < s.size→¬ Utf8.decode s k=(65533,1)→C (k+(Utf8.decode s k).2)→C k)→C i
theorem Goes.here {s:ByteArray} (i:Nat):Goes s i i:=fun _ h _=>h
theorem Goes.step {s:ByteArray} {i j:Nat} (h1:i < s.size) (h2:¬ Utf8.decode s i=(65533,1)) (h3:Goes s (i+(Utf8.decode s i).2) j):Goes s i j:=fun C a b=>b i h1 h2 (h3 C a b)
theorem Goes.trans {s:ByteArray} {i j k:Nat} (h:Goes s i j) (g:Goes s j k):Goes s i k :=
 h (fun i=>Goes s i k) g (fun _ h1 h2 ih=>.step h1 h2 ih)
theorem Goes.bad {s:ByteArray} {i j:Nat} (h:Goes s i j) (hj:j < s.size) (hd:Utf8.decode s j=(65533,1)):∀ f,s.size - i≤f→badFrom s f i=some j:=by
 refine h (fun i=>∀ f,s.size - i≤f→badFrom s f i=some j) ?_ ?_
 ·intro f hf
  cases f with
  | zero=>omega
  | succ f=>simp only[badFrom];rw[if_pos hj,if_pos hd]
 ·intro i h1 h2 ih f hf
  cases f with
  | zero=>omega
  | succ f =>
   simp only[badFrom];rw[if_pos h1,if_neg h2]
   have:=dec_size h1
   exact ih f (by omega)
theorem Goes.valid {s:ByteArray} {i j:Nat} (h:Goes s i j) (hV:V s j):V s i:=by
 refine h (fun i=>V s i) hV ?_
 intro i h1 h2 ih f
 cases f with
 | zero=>rfl
 | succ f=>simp only[badFrom];rw[if_pos h1,if_neg h2];exact ih f
theorem goes_en {s:ByteArray} {i r:Nat} {rest:List UInt8} (hr:validR r) (h:s.data.toList.drop i=en r++rest):Goes s i (i+(en r).length)∧s.data.toList.drop (i+(en r).length)=rest:=by
 obtain⟨h1,h2,h3,_⟩:=dec_en hr h
 refine⟨.step h2 ?_ ?_,h3⟩
 ·rw[h1]
  intro e
  have e1:=congrArg Prod.fst e
  have e2:=congrArg Prod.snd e
  simp only at e1 e2
  unfold en at e2
  rw[e1] at e2
  simp at e2
 ·rw[h1];exact .here _
theorem goes_bytes {s:ByteArray}:∀ (l:List UInt8) (i:Nat) (rest:List UInt8),(∀ b ∈ l,b.toNat < 128)→s.data.toList.drop i=l++rest→Goes s i (i+l.length)∧s.data.toList.drop (i+l.length)=rest:=by
 intro l
 induction l with
 | nil=>intro i rest _ h;exact⟨.here _,h⟩
 | cons b t ih =>
  intro i rest hb h
  have hb0:=hb b (List.mem_cons_self ..)
  have e:en b.toNat=[b]:=by rw[en_ascii hb0];simp
  obtain⟨g1,g2⟩:=goes_en (r:=b.toNat) (rest:=t++rest) ⟨by omega,by omega⟩ (by rw[e];exact h)
  rw[e] at g1 g2
  obtain⟨g3,g4⟩:=ih (i+1) rest (fun c hc=>hb c (List.mem_cons_of_mem _ hc)) g2
  have e2:i+(b :: t).length=i+1+t.length:=by simp;omega
  rw[e2]
  exact⟨g1.trans g3,g4⟩
def dm (n:Nat):List UInt8:=if n≤9 then [UInt8.ofNat (48+n)] else [UInt8.ofNat (48+n / 10),UInt8.ofNat (48+n % 10)]
def vl (r k:Nat):List UInt8:=en r++32 :: dm k
def okR (r:Nat):Prop:=validR r∧r≠32∧r≠10∧r≠62
theorem spl_cut (c:UInt8):∀ (A rest:List UInt8),c ∉ A→spl c (A++c :: rest)=A :: spl c rest:=by
 intro A
 induction A with
 | nil=>intro rest _;simp[spl]
 | cons a t ih =>
  intro rest h
  have h1:¬ a=c:=fun e=>h (by rw[e];exact List.mem_cons_self ..)
  have h2:=ih rest (fun hm=>h (List.mem_cons_of_mem _ hm))
  simp only[List.cons_append,spl,if_neg h1,h2]
def lines:List Nat→Nat→List (List UInt8)
 | [],_=>[]
 | r :: t,k=>vl r k :: lines t (k+1)
theorem says_some (L:List Ln):says (L.map some++[none])=L:=by
 unfold says
 rw[List.filterMap_append]
 simp
end Go.Proofs.YteflnddphpjahaaGreatDoor.Sp
namespace Go.Proofs.YteflnddphpjahaaGreatDoor
open Go.RowKit
theorem step_call {P:Program} {ops:Array Oper} {o:Oper} {a:Act} {w:World} {K:Act→World→Prop} {Q:Exit→Act→World→Prop} {E:Prop}
  (hg:o.guard=none) (c:Operand) (xs:Array Operand) (ts:Array TypeId) (hop:o.op=Op.call { callee := .value c,args:=xs,argTypes:=ts }) (F:Nat) (hc:a.eval c = .func (.func F) #[] #[])
  (args:Array Value) (hargs0:xs.toList.map a.eval=args.toList) (hen:∀ (args:Array Value) (w:World),(callFunc F args).run P w = .ok (.enter F args) w) {R:Ending→World→Prop} (hcalls:Calls P F args w R)
  (h:∀ e w',R e w'→match e with
    | .returned v=>K (a.put o.dst v) w'
    | .panicked chain=>Q (.panic chain) a w'
    | .outgrown=>LetsOut Q):if Region.wanted o (yielded ops a.tmps)=true then Oper.wp P o a w K Q else E:=by
 have hw:Region.wanted o (yielded ops a.tmps)=true:=by simp[Region.wanted,hg]
 have hargs:xs.map a.eval=args:=by apply Array.ext';simpa using hargs0
 rw[if_pos hw]
 unfold Oper.wp
 have hrun:(execOp a.eval o).run P w = .ok (.enter F args) w:=by
  have h1:=hen args w
  simp[execOp,hop,resolve,invoke,Deferred.ofValue,hc,hargs,h1,Result.andThen]
 rw[hrun,Oper.upon_enter]
 refine hcalls.mono ?_
 intro e w' hR
 have:=h e w' hR
 cases e <;> exact this
theorem ln_index28 (a0 a1 a2 a3 a4 a5 a6 a7 a8 a9 a10 a11 a12 a13 a14 a15 a16 a17 a18 a19 a20 a21 a22 a23 a24 a25 a26 a27:Value) (W:World):(i:Nat)→i < 7→∃ b0 b1 b2 b3,(Instr.index 176 (.agg #[a0,a1,a2,a3,a4,a5,a6,a7,a8,a9,a10,a11,a12,a13,a14,a15,a16,a17,a18,a19,a20,a21,a22,a23,a24,a25,a26,a27]) (.int .i64 i)).run Tryz.prog W = .ok (.agg #[b0,b1,b2,b3]) W∧#[a0,a1,a2,a3,a4,a5,a6,a7,a8,a9,a10,a11,a12,a13,a14,a15,a16,a17,a18,a19,a20,a21,a22,a23,a24,a25,a26,a27][i * 4]? = some b0∧#[a0,a1,a2,a3,a4,a5,a6,a7,a8,a9,a10,a11,a12,a13,a14,a15,a16,a17,a18,a19,a20,a21,a22,a23,a24,a25,a26,a27][i * 4+1]? = some b1∧#[a0,a1,a2,a3,a4,a5,a6,a7,a8,a9,a10,a11,a12,a13,a14,a15,a16,a17,a18,a19,a20,a21,a22,a23,a24,a25,a26,a27][i * 4+2]? = some b2∧#[a0,a1,a2,a3,a4,a5,a6,a7,a8,a9,a10,a11,a12,a13,a14,a15,a16,a17,a18,a19,a20,a21,a22,a23,a24,a25,a26,a27][i * 4+3]? = some b3
 | 0,_=>⟨_,_,_,_,by kernel_rfl,rfl,rfl,rfl,rfl⟩
 | 1,_=>⟨_,_,_,_,by kernel_rfl,rfl,rfl,rfl,rfl⟩
 | 2,_=>⟨_,_,_,_,by kernel_rfl,rfl,rfl,rfl,rfl⟩
 | 3,_=>⟨_,_,_,_,by kernel_rfl,rfl,rfl,rfl,rfl⟩
 | 4,_=>⟨_,_,_,_,by kernel_rfl,rfl,rfl,rfl,rfl⟩
 | 5,_=>⟨_,_,_,_,by kernel_rfl,rfl,rfl,rfl,rfl⟩
 | 6,_=>⟨_,_,_,_,by kernel_rfl,rfl,rfl,rfl,rfl⟩
 | n+7,h=>absurd h (by omega)
theorem ln_index {C:Array Value} (hC:C.size=28) {i:Nat} (hi:i < 7) {c0 c1 c2 c3:Value} (h0:C[i * 4]? = some c0) (h1:C[i * 4+1]? = some c1) (h2:C[i * 4+2]? = some c2) (h3:C[i * 4+3]? = some c3) (W:World) :
  (Instr.index 176 (.agg C) (.int .i64 i)).run Tryz.prog W = .ok (.agg #[c0,c1,c2,c3]) W:=by
 obtain⟨l⟩:=C
 match l,hC with
 | [a0,a1,a2,a3,a4,a5,a6,a7,a8,a9,a10,a11,a12,a13,a14,a15,a16,a17,a18,a19,a20,a21,a22,a23,a24,a25,a26,a27],_ =>
  obtain⟨b0,b1,b2,b3,hr,e0,e1,e2,e3⟩:=ln_index28 a0 a1 a2 a3 a4 a5 a6 a7 a8 a9 a10 a11 a12 a13 a14 a15 a16 a17 a18 a19 a20 a21 a22 a23 a24 a25 a26 a27 W i hi
  rw[h0] at e0
  rw[h1] at e1
  rw[h2] at e2
  rw[h3] at e3
  injection e0 with e0
  injection e1 with e1
  injection e2 with e2
  injection e3 with e3
  rw[e0,e1,e2,e3]
  exact hr
def CPost (s:ByteArray) (w:World) (e:Ending) (w':World):Prop :=
 Below w.heap.size w w'∧∃ pv,e = .returned (.tuple #[.pointer pv,.int .i64 (Sp.comp s).1,.int .i64 (Sp.comp s).2]) ∧
  ((Sp.comp s).1=0→∃ P C,pv=some ⟨P,0,none⟩∧w.heap.size≤P∧w'.heap[P]? = some (.cells C 178 (0,0))∧LnsIn (Sp.split s 10) w' P C 7∧(Sp.split s 10).length=7)
theorem cpost_err {s:ByteArray} {w w':World} {a b:Int} {pv:Option Addr} (h:Sp.comp s=(a,b)) (ha:a≠0) (hb:Below w.heap.size w w'):CPost s w (.returned (.tuple #[.pointer pv,.int .i64 a,.int .i64 b])) w' :=
 ⟨hb,pv,by rw[h],fun h0=>by rw[h] at h0;exact absurd h0 ha⟩
theorem comp_form {s:ByteArray} {i:Nat} (hs:s.size≤2000) (h7:i < 7) (hil:i≤(Sp.split s 10).length) (hok:∀ j,j < i→Sp.lineOk j ((Sp.split s 10).getD j ⟨#[]⟩)=true) (hc:i=(Sp.split s 10).length∨(i < (Sp.split s 10).length∧Sp.lineOk i ((Sp.split s 10).getD i ⟨#[]⟩)=false)):Sp.comp s=(3,(i:Int)):=by
 unfold Sp.comp
 rw[if_neg (by omega)]
 rcases hc with hc | ⟨hlt,hbad⟩
 ·rw[Sp.first_none (fun j hj=>by rw[hok j (by omega)];rfl)]
  simp only
  rw[if_neg (by omega),if_pos (by omega),hc]
 ·rw[Sp.first_some (k:=i) (by omega) (fun j hj=>by rw[hok j hj];rfl) (by rw[hbad];rfl)]
theorem comp_more {s:ByteArray} (hs:s.size≤2000) (hl:7 < (Sp.split s 10).length) (hok:∀ j,j < 7→Sp.lineOk j ((Sp.split s 10).getD j ⟨#[]⟩)=true):Sp.comp s=(3,7):=by
 unfold Sp.comp
 rw[if_neg (by omega),Sp.first_none (fun j hj=>by rw[hok j (by omega)];rfl)]
 simp only
 rw[if_pos (by omega)]
theorem ncode (s:ByteArray) (j:Nat):decide (Sp.hgt (Sp.codeOf s j) (Sp.codeOf s j).length 0 (Sp.codeOf s j).length 0≠some 1) = !Sp.keeps (wds ((Sp.split s 10).getD j ⟨#[]⟩)):=by
 show _ = !decide (Sp.hgt (Sp.codeOf s j) (Sp.codeOf s j).length 0 (Sp.codeOf s j).length 0=some 1)
 rw[decide_not]
theorem comp_stack {s:ByteArray} {i:Nat} (hs:s.size≤2000) (hl:(Sp.split s 10).length=7) (hok:∀ j,j < 7→Sp.lineOk j ((Sp.split s 10).getD j ⟨#[]⟩)=true) (h5:i < 5) (hk:∀ j,j < i→j < 5→Sp.keeps (wds ((Sp.split s 10).getD j ⟨#[]⟩))=true) (hn:Sp.keeps (wds ((Sp.split s 10).getD i ⟨#[]⟩))=false):Sp.comp s=(7,(i:Int)):=by
 unfold Sp.comp
 rw[if_neg (by omega),Sp.first_none (fun j hj=>by rw[hok j (by omega)];rfl)]
 simp only
 rw[if_neg (by omega),if_neg (by omega),Sp.first_some (k:=i) h5 (fun j hj=>by rw[ncode,hk j hj (by omega)];rfl) (by rw[ncode,hn];rfl)]
theorem comp_ok {s:ByteArray} (hs:s.size≤2000) (hl:(Sp.split s 10).length=7) (hok:∀ j,j < 7→Sp.lineOk j ((Sp.split s 10).getD j ⟨#[]⟩)=true) (hk:∀ j,j < 5→Sp.keeps (wds ((Sp.split s 10).getD j ⟨#[]⟩))=true):Sp.comp s=(0,0):=by
 unfold Sp.comp
 rw[if_neg (by omega),Sp.first_none (fun j hj=>by rw[hok j (by omega)];rfl)]
 simp only
 rw[if_neg (by omega),if_neg (by omega),Sp.first_none (fun j hj=>by rw[ncode,hk j hj];rfl)]
theorem sh_code:(i:Nat)→i < 7→shL[i * 3+1]? = some (.bool (decide (i < 5)))
 | 0,_=>rfl
 | 1,_=>rfl
 | 2,_=>rfl
 | 3,_=>rfl
 | 4,_=>rfl
 | 5,_=>rfl
 | 6,_=>rfl
 | n+7,h=>absurd h (by omega)
theorem code_in {s:ByteArray} {w:World} {P g:Nat} {C:Array Value} {u:TypeId} {p:Value} {i:Nat} (hs:s.size≤2000) (h5:i < 5) (hok:Sp.lineOk i ((Sp.split s 10).getD i ⟨#[]⟩)=true) (hc:CodeAt w g (wds ((Sp.split s 10).getD i ⟨#[]⟩))) (hl:i < (Sp.split s 10).length) (he:w.cell? ⟨5,0,none⟩=some (.iface u p)):CodeIn w g (wds ((Sp.split s 10).getD i ⟨#[]⟩)) u p:=by
 have hx:((Sp.split s 10).getD i ⟨#[]⟩).size≤2000:=by
  rw[List.getD_eq_getElem?_getD,List.getElem?_eq_getElem hl]
  exact Nat.le_trans (Sp.cut_size s 10 _ (List.getElem_mem hl)) hs
 generalize (Sp.split s 10).getD i ⟨#[]⟩=x at *
 have hlen:(wds x).length≤4000:=by
  unfold wds Sp.ws
  have:=(Sp.split_len x 32).2
  simp only[List.length_map,List.length_tail]
  omega
 unfold Sp.lineOk at hok
 rw[Bool.and_eq_true,if_neg (by omega),Bool.and_eq_true] at hok
 have hf:Sp.fmd (i == 2) (wds x) 0=true:=hok.2.1
 have hf2:Sp.fmd true (wds x) 0=true:=by
  cases hq:(i == 2) with
  | true=>rw[hq] at hf;exact hf
  | false=>rw[hq] at hf;exact Sp.fmd_weight _ _ hf
 have hpos:0 < (wds x).length:=by
  have h3:=hok.2.2
  unfold wds
  cases hq:(Sp.ws x).tail with
  | nil=>rw[hq] at h3;simp at h3
  | cons a l=>simp
 exact⟨⟨hc.lt,hc.fn⟩,hlen,hpos,hf2,he,World.block_lt_of_cell? w _ he⟩
theorem pcomp_long (s:ByteArray) (w:World) (hs:2000 < s.size):Calls Tryz.prog 36 #[.string s] w (CPost s w):=by
 have hz:(2000:Int) < (s.size:Int):=by omega
 have HE:Hid (Sp.comp s=(1,0)):=by show _=_;unfold Sp.comp;rw[if_pos hs]
 go_enter Tryz.func36,Tryz.ntmps36
 go_wp2
 exact bodyPost_ret (v := .tuple #[.pointer none,.int .i64 1,.int .i64 0]) (by simp[results,Tryz.results36,go_sem]) rfl (cpost_err (uh HE) (by decide) (Below.refl _ _))
theorem pcomp_short (s:ByteArray) (w:World) (hs:s.size≤2000) (hS:ShapesAt w) (hg:SplitOk w) (u:TypeId) (p:Value) (he:w.cell? ⟨5,0,none⟩=some (.iface u p)) :
  Calls Tryz.prog 36 #[.string s] w (CPost s w):=by
 have hz:¬ (2000:Int) < (s.size:Int):=by omega
 have hlen:=Sp.split_len s 10
 have HEE:=hde he
 have HSS:=hde hS
 generalize hO:CPost s w=O
 replace hO:=hde hO
 clear he hS
 go_enter Tryz.func36,Tryz.ntmps36
 go_wp2_with fail
 refine(psplit10_any s _ (by omega) hg).mono ?_
 rintro e w1 ⟨rfl,hw1⟩
 have hb1:Below w.heap.size w w1:=by rw[hw1];exact(Below.refl _ _).alloc nlr _
 have hsat:SAt w1 (some ⟨w.heap.size,0,none⟩) (Sp.split s 10):=by rw[hw1];exact sat_alloc w _
 clear hw1
 go_wp2_with fail
 refine(readLines_any' (Sp.split s 10) _ _ _ hsat (by omega) (fun x hx=>Nat.le_trans (Sp.cut_size s 10 x hx) hs) ((uh HSS).below hb1 (uh HSS).lt) (csplit_ok_below hg hb1 hg.lt)).mono ?_
 rintro e w2 ⟨hb2,i,hi7,hil,hok,⟨h7,hc,rfl⟩ | ⟨e7,hne,P,rfl⟩ | ⟨e7,hl7,P,C,hP,rfl,hpr,hln⟩⟩
 ·have hfin:O (.returned (.tuple #[.pointer none,.int .i64 3,.int .i64 i])) w2:=by
   rw[← uh hO]
   exact cpost_err (comp_form hs h7 hil hok hc) (by decide) (hb1.trans (hb2.mono hb1.size))
  clear hc hok hsat hb1 hb2
  go_wp2
  exact bodyPost_ret (v := .tuple #[.pointer none,.int .i64 3,.int .i64 i]) (by simp[results,Tryz.results36,go_sem]) rfl hfin
 ·subst e7
  have hfin:O (.returned (.tuple #[.pointer none,.int .i64 3,.int .i64 7])) w2:=by
   rw[← uh hO]
   exact cpost_err (comp_more hs (by omega) hok) (by decide) (hb1.trans (hb2.mono hb1.size))
  clear hne hok hsat hb1 hb2
  go_wp2
  exact bodyPost_ret (v := .tuple #[.pointer none,.int .i64 3,.int .i64 7]) (by simp[results,Tryz.results36,go_sem]) rfl hfin
 ·subst e7
  have hbw:=hb1.trans (hb2.mono hb1.size)
  have HOK:=hde hok
  have HLN:=hde hln
  have HPR:=hde hpr
  have HL7:=hde hl7
  have hsz:(Tryz.prog.info? 176).map (·.size)=some C.size:=by rw[hln.size];kernel_rfl
  have HBW:=hde hbw
  have hle1:=hb1.size
  clear hok hln hsat hb1 hb2 hl7 hil hlen hbw
  go_upto_region 6 with fail
  iterate 11 (first | go_values | go_skip | go_guarded | go_step | go_upon | (simp only[Int.not_lt,Int.not_le] at *;go_simp))
  refine wp_load_row 176 (.tmp 25) rfl P rfl 178 C (0,0) _ hpr Tryz.underlying176 rfl hsz ?_
  clear hpr hsz
  go_wp2_with fail
  go_loopw [27] (fun v wr=>∃ i:Nat,i≤7∧v = .int .i64 i∧Below w2.heap.size w2 wr∧Hid (∀ j,j < i→j < 5→Sp.keeps (wds ((Sp.split s 10).getD j ⟨#[]⟩))=true)) (fun v _=>7 - (intOf v).toNat)
  case atStart=>exact⟨0,by omega,rfl,Below.refl _ _,fun j hj=>absurd hj (by omega)⟩
  case round =>
   obtain⟨i,hi,rfl,hb,HK⟩:=hrel
   by_cases h7:i < 7
   ·have c1:(i:Int) < 7:=by omega
    have g0:(0:Int)≤(i:Int):=Int.natCast_nonneg _
    obtain⟨p4,n4,cap4,b4,z4,q4,F4,d0,d1,d2,d3⟩:=(uh HLN).shape i h7
    have hbw2:=(uh HBW).trans (hb.mono (uh HBW).size)
    have hsh:=(uh HSS).below hbw2 (uh HSS).lt
    have hsc:=hsh (i * 3+1) _ (sh_code i h7)
    rw[Nat.zero_add] at hsc
    have hix:=ln_index (uh HLN).size h7 d0 d1 d2 d3
    cases q4 with
    | true =>
     unfold fval at d3 hix
     have hsc2:(wr.alloc (.cells #[.slice p4 n4 cap4,.string b4,.int .i64 z4,.func (.func F4) #[] #[]] 175)).cell? ⟨0,i * 3+1,none⟩=some (.bool (decide (i < 5))):=(((Below.refl wr.heap.size wr).alloc nlr _).cell (p:=⟨0,i * 3+1,none⟩) hsh.lt).trans hsc
     have HBA:Hid (Below w2.heap.size w2 (wr.alloc (.cells #[.slice p4 n4 cap4,.string b4,.int .i64 z4,.func (.func F4) #[] #[]] 175))):=hb.alloc hb.size _
     by_cases h5:i < 5
     ·rw[decide_eq_true h5] at hsc2
      obtain⟨g4,cap5,e0,hPg,hca⟩:=(uh HLN).code i h7 h5
      rw[d0] at e0
      injection e0 with e0
      injection e0 with e1 e2 e3
      subst e1
      obtain⟨kp,HKP⟩:∃ kp,Hid (Sp.keeps (wds ((Sp.split s 10).getD i ⟨#[]⟩))=kp):=⟨_,rfl⟩
      have HKA:Hid (Calls Tryz.prog 69 #[.slice (some ⟨g4,0,none⟩) n4 cap4] (wr.alloc (.cells #[.slice (some ⟨g4,0,none⟩) n4 cap4,.string b4,.int .i64 z4,.func (.func F4) #[] #[]] 175)) fun e w'=>e = .returned (.bool kp)∧Below (wr.alloc (.cells #[.slice (some ⟨g4,0,none⟩) n4 cap4,.string b4,.int .i64 z4,.func (.func F4) #[] #[]] 175)).heap.size (wr.alloc (.cells #[.slice (some ⟨g4,0,none⟩) n4 cap4,.string b4,.int .i64 z4,.func (.func F4) #[] #[]] 175)) w'):=by
       have hbz:=(uh HBW).trans ((uh HBA).mono (uh HBW).size)
       rw[e2,← uh HKP]
       rw[e2] at hbz HBA
       refine keeps_any _ g4 cap4 u p _ (code_in (P:=P) (C:=C) hs h5 (uh HOK i h7) (hca.below (uh HBA)) (by rw[uh HL7];omega) ?_)
       exact(hbz.cell (p:=⟨5,0,none⟩) (World.block_lt_of_cell? w _ (uh HEE))).trans (uh HEE)
      have HFE:Hid (kp=false→∀ w',Below w2.heap.size w2 w'→O (.returned (.tuple #[.pointer none,.int .i64 7,.int .i64 i])) w'):=by
       show kp=false→_
       intro hkp w' hb'
       rw[← uh hO]
       have hbw:=uh HBW
       exact cpost_err (comp_stack hs (uh HL7) (uh HOK) h5 (uh HK) ((uh HKP).trans hkp)) (by decide) (hbw.trans (hb'.mono hbw.size))
      clear d0 d1 d2 d3 hsh hbw2 hsc hb e2 e3 hca hPg
      cases kp with
      | true =>
       go_wp2_with (first | (go_at_call 69;go_must (refine(uh HKA).mono ?_;rintro e w5 ⟨rfl,hb5⟩;have HB5:=hde hb5;clear hb5)) | go_in)
       go_roundw
       case rel=>exact⟨i+1,by omega,by go_num,(uh HBA).trans ((uh HB5).mono (uh HBA).size),fun j hj hj5=>if h:j=i then h ▸ uh HKP else uh HK j (by omega) hj5⟩
       case measure=>simp[intOf];omega
      | false =>
       go_wp2_with (first | (go_at_call 69;go_must (refine(uh HKA).mono ?_;rintro e w5 ⟨rfl,hb5⟩;have HB5:=hde hb5;clear hb5)) | go_in)
       exact bodyPost_ret (v := .tuple #[.pointer none,.int .i64 7,.int .i64 i]) (by simp[results,Tryz.results36,go_sem]) rfl (uh HFE (by trivial) _ ((uh HBA).trans ((uh HB5).mono (uh HBA).size)))
     ·rw[decide_eq_false h5] at hsc2
      clear d0 d1 d2 d3 hsh hbw2 hsc hb
      go_wp2
      go_roundw
      case rel=>exact⟨i+1,by omega,by go_num,uh HBA,fun j hj hj5=>uh HK j (by omega) hj5⟩
      case measure=>simp[intOf];omega
    | false =>
     unfold fval at d3 hix
     have hsc2:(wr.alloc (.cells #[.slice p4 n4 cap4,.string b4,.int .i64 z4,.nilFunc] 175)).cell? ⟨0,i * 3+1,none⟩=some (.bool (decide (i < 5))):=(((Below.refl wr.heap.size wr).alloc nlr _).cell (p:=⟨0,i * 3+1,none⟩) hsh.lt).trans hsc
     have HBA:Hid (Below w2.heap.size w2 (wr.alloc (.cells #[.slice p4 n4 cap4,.string b4,.int .i64 z4,.nilFunc] 175))):=hb.alloc hb.size _
     by_cases h5:i < 5
     ·rw[decide_eq_true h5] at hsc2
      obtain⟨g4,cap5,e0,hPg,hca⟩:=(uh HLN).code i h7 h5
      rw[d0] at e0
      injection e0 with e0
      injection e0 with e1 e2 e3
      subst e1
      obtain⟨kp,HKP⟩:∃ kp,Hid (Sp.keeps (wds ((Sp.split s 10).getD i ⟨#[]⟩))=kp):=⟨_,rfl⟩
      have HKA:Hid (Calls Tryz.prog 69 #[.slice (some ⟨g4,0,none⟩) n4 cap4] (wr.alloc (.cells #[.slice (some ⟨g4,0,none⟩) n4 cap4,.string b4,.int .i64 z4,.nilFunc] 175)) fun e w'=>e = .returned (.bool kp)∧Below (wr.alloc (.cells #[.slice (some ⟨g4,0,none⟩) n4 cap4,.string b4,.int .i64 z4,.nilFunc] 175)).heap.size (wr.alloc (.cells #[.slice (some ⟨g4,0,none⟩) n4 cap4,.string b4,.int .i64 z4,.nilFunc] 175)) w'):=by
       have hbz:=(uh HBW).trans ((uh HBA).mono (uh HBW).size)
       rw[e2,← uh HKP]
       rw[e2] at hbz HBA
       refine keeps_any _ g4 cap4 u p _ (code_in (P:=P) (C:=C) hs h5 (uh HOK i h7) (hca.below (uh HBA)) (by rw[uh HL7];omega) ?_)
       exact(hbz.cell (p:=⟨5,0,none⟩) (World.block_lt_of_cell? w _ (uh HEE))).trans (uh HEE)
      have HFE:Hid (kp=false→∀ w',Below w2.heap.size w2 w'→O (.returned (.tuple #[.pointer none,.int .i64 7,.int .i64 i])) w'):=by
       show kp=false→_
       intro hkp w' hb'
       rw[← uh hO]
       have hbw:=uh HBW
       exact cpost_err (comp_stack hs (uh HL7) (uh HOK) h5 (uh HK) ((uh HKP).trans hkp)) (by decide) (hbw.trans (hb'.mono hbw.size))
      clear d0 d1 d2 d3 hsh hbw2 hsc hb e2 e3 hca hPg
      cases kp with
      | true =>
       go_wp2_with (first | (go_at_call 69;go_must (refine(uh HKA).mono ?_;rintro e w5 ⟨rfl,hb5⟩;have HB5:=hde hb5;clear hb5)) | go_in)
       go_roundw
       case rel=>exact⟨i+1,by omega,by go_num,(uh HBA).trans ((uh HB5).mono (uh HBA).size),fun j hj hj5=>if h:j=i then h ▸ uh HKP else uh HK j (by omega) hj5⟩
       case measure=>simp[intOf];omega
      | false =>
       go_wp2_with (first | (go_at_call 69;go_must (refine(uh HKA).mono ?_;rintro e w5 ⟨rfl,hb5⟩;have HB5:=hde hb5;clear hb5)) | go_in)
       exact bodyPost_ret (v := .tuple #[.pointer none,.int .i64 7,.int .i64 i]) (by simp[results,Tryz.results36,go_sem]) rfl (uh HFE (by trivial) _ ((uh HBA).trans ((uh HB5).mono (uh HBA).size)))
     ·rw[decide_eq_false h5] at hsc2
      clear d0 d1 d2 d3 hsh hbw2 hsc hb
      go_wp2
      go_roundw
      case rel=>exact⟨i+1,by omega,by go_num,uh HBA,fun j hj hj5=>uh HK j (by omega) hj5⟩
      case measure=>simp[intOf];omega
   ·have e7:i=7:=by omega
    subst e7
    have hfin:O (.returned (.tuple #[.pointer (some ⟨P,0,none⟩),.int .i64 0,.int .i64 0])) wr:=by
     rw[← uh hO]
     have hbw:=uh HBW
     have hcomp:=comp_ok hs (uh HL7) (uh HOK) (fun j hj=>uh HK j (by omega) hj)
     have hPl:=(Array.getElem?_eq_some_iff.1 (uh HPR)).1
     refine⟨hbw.trans (hb.mono hbw.size),some ⟨P,0,none⟩,by rw[hcomp],fun _=>⟨P,C,rfl,Nat.le_trans hle1 hP,(hb.block P hPl).trans (uh HPR),(uh HLN).below hb,uh HL7⟩⟩
    clear hb
    go_wp2
    exact bodyPost_ret (v := .tuple #[.pointer (some ⟨P,0,none⟩),.int .i64 0,.int .i64 0]) (by simp[results,Tryz.results36,go_sem]) rfl hfin
end Go.Proofs.YteflnddphpjahaaGreatDoor
