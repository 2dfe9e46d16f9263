import Derived.Test.YteflnddphpjahaaGreatDoorCmCardAtoCopyK
import Derived.Test.YteflnddphpjahaaGreatDoorCmCqS
import Derived.Test.YteflnddphpjahaaGreatDoorCmCqLtoAppK
set_option linter.unusedVariables false
set_option linter.unusedSimpArgs false
set_option maxRecDepth 100000
set_option maxHeartbeats 16000000
namespace Go.Proofs.YteflnddphpjahaaGreatDoor
open Go.RowKit Go.Shelf Go.Lib
open Go.ChangeShapes Go.WideShapes Go.ChangeAt
open Go.ChangeMaps (open_string shut_string)
theorem shapeFields:∃ f0 f1 f2:Field,Tryz.prog.underlying 180=some (.struct #[f0,f1,f2])∧f0.type=9∧f1.type=4∧f2.type=4∧f0.offset=0∧f1.offset=1∧f2.offset=2 :=
 ⟨_,_,_,Tryz.underlying180,rfl,rfl,rfl,rfl,rfl,rfl⟩
theorem cellsShape:Tryz.prog.cellsOf 180=3:=by kernel_rfl
theorem cellsStr:Tryz.prog.cellsOf 9=1:=by kernel_rfl
theorem cellsBool:Tryz.prog.cellsOf 4=1:=by kernel_rfl
theorem len3 {cs:List Value} (h:cs.length=3):∃ a b c,cs=[a,b,c]:=by
 match cs,h with
 | [a,b,c],_=>exact⟨a,b,c,rfl⟩
theorem shape_one {H:Type} {enc:TypeId × Value→H} {w:World} {fuel:Nat} {cs:List Value} {s:List UInt8} {a b:Bool} {q:List MemPlace} (h:DataW.trod enc Tryz.prog w 0 (fun _=>true) false fuel 180 cs=some (.agg [.lit (.string s),.lit (.bool a),.lit (.bool b)],q)) :
  cs=[.string ⟨⟨s⟩⟩,.bool a,.bool b]:=by
 obtain⟨f0,f1,f2,hu,t0,t1,t2,o0,o1,o2⟩:=shapeFields
 obtain⟨xs,n,_,hx,hl,hlen,hf⟩:=DataW.trod_struct hu h
 rw[cellsShape] at hl
 match xs,hlen with
 | [y0,y1,y2],_ =>
  have g0:=hf 0 f0 rfl
  have g1:=hf 1 f1 rfl
  have g2:=hf 2 f2 rfl
  rw[t0,o0,cellsStr] at g0
  rw[t1,o1,cellsBool] at g1
  rw[t2,o2,cellsBool] at g2
  obtain⟨k,e0,rfl,_⟩:=DataW.trod_string Tryz.underlying9 (x:=y0) (by simpa using g0)
  obtain⟨a',e1,rfl⟩:=DataW.trod_bool Tryz.underlying4 (x:=y1) (by simpa using g1)
  obtain⟨b',e2,rfl⟩:=DataW.trod_bool Tryz.underlying4 (x:=y2) (by simpa using g2)
  obtain⟨c0,c1,c2,rfl⟩:=len3 hl
  clear h hf g0 g1 g2
  have i0:[c0]=[Value.string k]:=e0
  have i1:[c1]=[Value.bool a']:=e1
  have i2:[c2]=[Value.bool b']:=e2
  injection i0 with i0
  injection i1 with i1
  injection i2 with i2
  have hx1:=congrArg Prod.fst hx
  injection hx1 with hx2
  have h3:[DataW.lit (.string s),DataW.lit (.bool a),DataW.lit (.bool b)]=[(DataW.lit (.string k.data.toList):DataW H),.lit (.bool a'),.lit (.bool b')]:=hx2
  injection h3 with h0 h3
  injection h3 with h1 h3
  injection h3 with h2 _
  injection h0 with h0
  injection h0 with h0
  injection h1 with h1
  injection h1 with h1
  injection h2 with h2
  injection h2 with h2
  subst i0 i1 i2 h1 h2
  have hk:k=⟨⟨s⟩⟩:=by apply ByteArray.ext;apply Array.toList_inj.1;exact h0.symm
  rw[hk]
theorem sh_data:(i:Nat)→i < 7→∀ (ds:List (DataW Unit)),(Rows.laid_stride_programs_shapes:DataW Unit) = .agg ds→ds[i]? = some (.agg [.lit (.string (Sp.headsL[i]!)),.lit (.bool (decide (i < 5))),.lit (.bool (i == 2))])
 | 0,_,ds,e=>by unfold Rows.laid_stride_programs_shapes at e;injection e with e;rw[← e];rfl
 | 1,_,ds,e=>by unfold Rows.laid_stride_programs_shapes at e;injection e with e;rw[← e];rfl
 | 2,_,ds,e=>by unfold Rows.laid_stride_programs_shapes at e;injection e with e;rw[← e];rfl
 | 3,_,ds,e=>by unfold Rows.laid_stride_programs_shapes at e;injection e with e;rw[← e];rfl
 | 4,_,ds,e=>by unfold Rows.laid_stride_programs_shapes at e;injection e with e;rw[← e];rfl
 | 5,_,ds,e=>by unfold Rows.laid_stride_programs_shapes at e;injection e with e;rw[← e];rfl
 | 6,_,ds,e=>by unfold Rows.laid_stride_programs_shapes at e;injection e with e;rw[← e];rfl
 | n+7,h,_,_=>absurd h (by omega)
theorem shapes_of {w : World} (h : VarReads Tryz.prog w "stride/programs.shapes" Rows.laid_stride_programs_shapes) : ShapesAt w := by
 obtain⟨g,t,cs,fuel,p,hg,hty,hvar,hd⟩:=h
 obtain rfl : 0 = g := Option.some.inj ((show Tryz.prog.globalNamed "stride/programs.shapes" = some 0 by kernel_rfl).symm.trans hg)
 obtain rfl:181=t:=Option.some.inj ((show (Tryz.prog.globals[0]?).map (·.type)=some 181 by kernel_rfl).symm.trans hty)
 obtain⟨ds,hds⟩:∃ ds,(Rows.laid_stride_programs_shapes:DataW Unit) = .agg ds:=⟨_,rfl⟩
 rw[hds] at hd
 have hc:∀ i,i < 7→w.cell? ⟨0,i * 3,none⟩=some (.string (shNm i))∧w.cell? ⟨0,i * 3+1,none⟩=some (.bool (decide (i < 5)))∧w.cell? ⟨0,i * 3+2,none⟩=some (.bool (i == 2)):=by
  intro i hi
  obtain⟨fuel',d,q,hdi,he⟩:=array_elem Tryz.underlying181 hd i hi
  rw[sh_data i hi ds hds] at hdi
  injection hdi with hdi
  subst hdi
  rw[cellsShape] at he
  have hcs:=shape_one he
  have e0:=congrArg (·[0]?) hcs
  have e1:=congrArg (·[1]?) hcs
  have e2:=congrArg (·[2]?) hcs
  simp only[List.getElem?_take,List.getElem?_drop] at e0 e1 e2
  refine⟨?_,?_,?_⟩
  ·rw[World.var?_cell hg hvar (i * 3),← Array.getElem?_toList]
   simpa [shNm] using e0
  ·rw[World.var?_cell hg hvar (i * 3+1),← Array.getElem?_toList]
   simpa using e1
  ·rw[World.var?_cell hg hvar (i * 3+2),← Array.getElem?_toList]
   simpa using e2
 intro j v hj
 match j,hj with
 | 0,h=>simp[shL] at h;subst h;rw[Nat.zero_add];exact(hc 0 (by omega)).1
 | 1,h=>simp[shL] at h;subst h;rw[Nat.zero_add];exact(hc 0 (by omega)).2.1
 | 2,h=>simp[shL] at h;subst h;rw[Nat.zero_add];exact(hc 0 (by omega)).2.2
 | 3,h=>simp[shL] at h;subst h;rw[Nat.zero_add];exact(hc 1 (by omega)).1
 | 4,h=>simp[shL] at h;subst h;rw[Nat.zero_add];exact(hc 1 (by omega)).2.1
 | 5,h=>simp[shL] at h;subst h;rw[Nat.zero_add];exact(hc 1 (by omega)).2.2
 | 6,h=>simp[shL] at h;subst h;rw[Nat.zero_add];exact(hc 2 (by omega)).1
 | 7,h=>simp[shL] at h;subst h;rw[Nat.zero_add];exact(hc 2 (by omega)).2.1
 | 8,h=>simp[shL] at h;subst h;rw[Nat.zero_add];exact(hc 2 (by omega)).2.2
 | 9,h=>simp[shL] at h;subst h;rw[Nat.zero_add];exact(hc 3 (by omega)).1
 | 10,h=>simp[shL] at h;subst h;rw[Nat.zero_add];exact(hc 3 (by omega)).2.1
 | 11,h=>simp[shL] at h;subst h;rw[Nat.zero_add];exact(hc 3 (by omega)).2.2
 | 12,h=>simp[shL] at h;subst h;rw[Nat.zero_add];exact(hc 4 (by omega)).1
 | 13,h=>simp[shL] at h;subst h;rw[Nat.zero_add];exact(hc 4 (by omega)).2.1
 | 14,h=>simp[shL] at h;subst h;rw[Nat.zero_add];exact(hc 4 (by omega)).2.2
 | 15,h=>simp[shL] at h;subst h;rw[Nat.zero_add];exact(hc 5 (by omega)).1
 | 16,h=>simp[shL] at h;subst h;rw[Nat.zero_add];exact(hc 5 (by omega)).2.1
 | 17,h=>simp[shL] at h;subst h;rw[Nat.zero_add];exact(hc 5 (by omega)).2.2
 | 18,h=>simp[shL] at h;subst h;rw[Nat.zero_add];exact(hc 6 (by omega)).1
 | 19,h=>simp[shL] at h;subst h;rw[Nat.zero_add];exact(hc 6 (by omega)).2.1
 | 20,h=>simp[shL] at h;subst h;rw[Nat.zero_add];exact(hc 6 (by omega)).2.2
 | n+21,h=>simp[shL] at h
theorem iface_one {P:Program} {w:World} {base:Nat} {sp:Nat→Bool} {fuel:Nat} {t:TypeId} {ms:Array (String × TypeId)} {cs:List Value} {nm:String} {d:DataW Unit} {q:List MemPlace} (ht:P.underlying t=some (.interface ms)) (h:DataW.trod (fun _=>()) P w base sp false fuel t cs=some (.iface nm d,q)):∃ u v,cs=[.iface u v]:=by
 cases fuel with
 | zero=>simp[DataW.trod] at h
 | succ n =>
  match cs,h with
  | [],h=>simp[DataW.trod,ht] at h
  | [c],h =>
   cases c
   case iface u v=>exact⟨u,v,rfl⟩
   all_goals (simp[DataW.trod,ht] at h)
  | a :: b :: r,h=>simp[DataW.trod,ht] at h
theorem err_of {w : World} (h : VarReads Tryz.prog w "stride/programs.errStack" Rows.laid_stride_programs_errStack) : ∃ u p, w.cell? ⟨5, 0, none⟩ = some (.iface u p) := by
 obtain⟨g,t,cs,fuel,p,hg,hty,hvar,hd⟩:=h
 obtain rfl : 5 = g := Option.some.inj ((show Tryz.prog.globalNamed "stride/programs.errStack" = some 5 by kernel_rfl).symm.trans hg)
 obtain rfl:261=t:=Option.some.inj ((show (Tryz.prog.globals[5]?).map (·.type)=some 261 by kernel_rfl).symm.trans hty)
 obtain⟨u,v,hcs⟩:=iface_one Tryz.underlying261 hd
 refine⟨u,v,?_⟩
 rw[World.var?_cell hg hvar 0,← Array.getElem?_toList,hcs];rfl
end Go.Proofs.YteflnddphpjahaaGreatDoor
namespace Go.Proofs.YteflnddphpjahaaGreatDoor.Sp
open Go Go.RowKit
structure Ev where
 value:Int
 old:Int
 inn:Int
 got:Int
 step:Int
 id:Int
 deg:Int
 all:Int
 weight:Int
def ldv (E:Ev) (x:List UInt8):Int :=
 if x=[118,97,108,117,101] then E.value
 else if x=[111,108,100] then E.old
 else if x=[105,110] then E.inn
 else if x=[103,111,116] then E.got
 else if x=[115,116,101,112] then E.step
 else if x=[105,100] then E.id
 else if x=[100,101,103] then E.deg
 else if x=[97,108,108] then E.all
 else E.weight
def op2 (x:List UInt8) (a b:Int):Option Int :=
 if x=[43] then some (wrap64 (a+b))
 else if x=[45] then some (wrap64 (a - b))
 else if x=[42] then some (wrap64 (a * b))
 else if x=[47] then (if b=0 then none else some (wrap64 (a.tdiv b)))
 else if x=[37] then (if b=0 then none else some (a.tmod b))
 else if x=[60] then some (if a < b then 1 else 0)
 else if x=[61] then some (if a=b then 1 else 0)
 else if x=[109,105,110] then some (min a b)
 else some (max a b)
def weff (E:Ev) (x:List UInt8) (T:List Int):Option (List Int):=
 match number x with
 | some n=>some (n :: T)
 | none =>
  if x ∈ loadsL∨x=[119,101,105,103,104,116] then some (ldv E x :: T)
  else if x ∈ twosL then (match T with | b :: a :: r=>(op2 x a b).map (· :: r) | _=>none)
  else if x=[100,117,112] then (match T with | a :: r=>some (a :: a :: r) | _=>none)
  else if x=[100,114,111,112] then (match T with | _ :: r=>some r | _=>none)
  else if x=[115,119,97,112] then (match T with | b :: a :: r=>some (a :: b :: r) | _=>none)
  else if x=[111,118,101,114] then (match T with | b :: a :: r=>some (a :: b :: a :: r) | _=>none)
  else if x=[63] then (match T with | c :: b :: a :: r=>some ((if a≠0 then b else c) :: r) | _=>none)
  else none
structure Ms where
 at':Nat
 fuel:Nat
 T:List Int
 lp:List (Int × Nat)
def mstep (L:List (List UInt8)) (E:Ev) (s:Ms):Option Ms :=
 if s.fuel=0 then none
 else if L.getD s.at' []=[91] then
  (match s.T with
    | []=>none
    | n :: T=>if n < 1 then some ⟨(clo (L.drop s.at') s.at' 0).getD 0+1,s.fuel - 1,T,s.lp⟩ else some ⟨s.at'+1,s.fuel - 1,T,(n,s.at') :: s.lp⟩)
 else if L.getD s.at' []=[93] then
  (match s.lp with
    | []=>none
    | (k,a) :: r=>if 1 < k then some ⟨a+1,s.fuel - 1,s.T,(k - 1,a) :: r⟩ else some ⟨s.at'+1,s.fuel - 1,s.T,r⟩)
 else (weff E (L.getD s.at' []) s.T).map fun T=>⟨s.at'+1,s.fuel - 1,T,s.lp⟩
def mrun (L:List (List UInt8)) (E:Ev):Nat→Ms→Option Ms
 | 0,_=>none
 | g+1,s=>if L.length≤s.at' then some s else match mstep L E s with
  | none=>none
  | some t=>mrun L E g t
def ev (L:List (List UInt8)) (E:Ev):Option Int:=(mrun L E 201 ⟨0,200,[],[]⟩).bind fun s=>s.T.head?
theorem mstep_fuel {L:List (List UInt8)} {E:Ev} {s t:Ms} (h:mstep L E s=some t):s.fuel=t.fuel+1:=by
 unfold mstep at h
 split at h
 ·cases h
 ·rename_i hf
  split at h
  ·split at h
   ·cases h
   ·split at h <;> (injection h with h;subst h;simp;omega)
  ·split at h
   ·split at h
    ·cases h
    ·split at h <;> (injection h with h;subst h;simp;omega)
   ·obtain⟨T,_,h⟩:=Option.map_eq_some_iff.1 h
    subst h;simp;omega
theorem mrun_gas {L:List (List UInt8)} {E:Ev}:∀ (g:Nat) (s:Ms),s.fuel < g→∀ g',s.fuel < g'→mrun L E g s=mrun L E g' s:=by
 intro g
 induction g with
 | zero=>intro s h;omega
 | succ g ih =>
  intro s h g' h'
  cases g' with
  | zero=>omega
  | succ g' =>
   simp only[mrun]
   split
   ·rfl
   ·cases hs:mstep L E s with
    | none=>rfl
    | some t =>
     have:=mstep_fuel hs
     exact ih t (by omega) g' (by omega)
theorem fmd_split2:∀ (R:List (List UInt8)) (d c:Int),0≤d→0≤c→fmd true R (d+c+1)=true →
  ∃ R1 R2,R=R1++[93] :: R2∧fmd true R1 c=true∧fmd true R2 d=true∧∀ k T,clo (R++T) k (c+1)=some (k+R1.length):=by
 intro R
 induction R with
 | nil =>
  intro d c hd hc h
  simp only[fmd,decide_eq_true_eq] at h
  omega
 | cons y r ih =>
  intro d c hd hc h
  obtain⟨h1,h2,h3⟩:=fmd_cons h
  have hb:=ds_bd y
  by_cases hz:c+1+ds y=0
  ·have hy:y=[93]:=by
    by_cases e1:y=[91]
    ·subst e1;simp[ds] at hz;omega
    ·by_cases e2:y=[93]
     ·exact e2
     ·rw[ds_none e1 e2] at hz;omega
   have hc0:c=0:=by omega
   subst hy hc0
   refine⟨[],r,rfl,rfl,?_,fun k T=>?_⟩
   ·rw[show d+0+1+ds [93]=d by omega] at h3;exact h3
   ·simp only[List.cons_append,clo]
    rw[if_pos hz];rfl
  ·obtain⟨R1,R2,e,f1,f2,f3⟩:=ih d (c+ds y) hd (by omega) (by rw[show d+(c+ds y)+1=d+c+1+ds y by omega];exact h3)
   refine⟨y :: R1,R2,by rw[e];rfl,fmd_mk h1 (by omega) f1,f2,fun k T=>?_⟩
   simp only[List.cons_append,clo]
   rw[if_neg hz,show c+1+ds y=c+ds y+1 by omega,f3 (k+1) T]
   simp only[List.length_cons]
   congr 1;omega
theorem drun_bal {S:List (List UInt8)} (hf:fmd true S 0=true) {h:Nat} (hh:h≤16) (ls:List Nat) {h':Nat} {ls':List Nat} (e:drun S h ls=some (h',ls')):ls'=ls:=by
 have:=drun_hgt S S.length S [] 0 h ls nlr (by simp) (by omega) hf hh
 rw[this] at e
 split at e
 ·cases e
 ·injection e with e;injection e with _ e;exact e.symm
theorem weff_len {E:Ev} {x:List UInt8} {T T':List Int} {n m:Nat} (h1:x≠[91]) (h2:x≠[93]) (ht:tk true x=some (n,m)) (hw:weff E x T=some T'):n≤T.length∧T'.length=T.length - n+m:=by
 unfold tk at ht
 unfold weff at hw
 cases hn:number x with
 | some v =>
  rw[hn] at ht hw
  simp at ht hw
  obtain⟨rfl,rfl⟩:=ht
  subst hw
  simp
 | none =>
  rw[hn] at ht hw
  simp only[Option.isSome_none,Bool.false_eq_true,false_or,true_and] at ht
  simp only at hw
  by_cases a1:x ∈ loadsL∨x=[119,101,105,103,104,116]
  ·rw[if_pos a1] at ht hw
   injection ht with ht;injection ht with t1 t2;subst t1 t2
   injection hw with hw;subst hw;simp
  ·rw[if_neg a1] at ht hw
   by_cases a2:x ∈ twosL
   ·rw[if_pos a2] at ht hw
    injection ht with ht;injection ht with t1 t2;subst t1 t2
    split at hw
    ·obtain⟨v,_,rfl⟩:=Option.map_eq_some_iff.1 hw
     simp
    ·cases hw
   ·rw[if_neg a2] at ht hw
    by_cases a3:x=[100,117,112]
    ·rw[if_pos a3] at ht hw
     injection ht with ht;injection ht with t1 t2;subst t1 t2
     split at hw
     ·injection hw with hw;subst hw;simp
     ·cases hw
    ·rw[if_neg a3] at ht hw
     by_cases a4:x=[100,114,111,112]
     ·rw[if_pos a4] at ht hw
      injection ht with ht;injection ht with t1 t2;subst t1 t2
      split at hw
      ·injection hw with hw;subst hw;simp
      ·cases hw
     ·rw[if_neg a4] at ht hw
      rw[if_neg h1] at ht
      by_cases a5:x=[115,119,97,112]
      ·rw[if_pos a5] at ht hw
       injection ht with ht;injection ht with t1 t2;subst t1 t2
       split at hw
       ·injection hw with hw;subst hw;simp
       ·cases hw
      ·rw[if_neg a5] at ht hw
       by_cases a6:x=[111,118,101,114]
       ·rw[if_pos a6] at ht hw
        injection ht with ht;injection ht with t1 t2;subst t1 t2
        split at hw
        ·injection hw with hw;subst hw;simp
        ·cases hw
       ·rw[if_neg a6] at ht hw
        by_cases a7:x=[63]
        ·rw[if_pos a7] at ht hw
         injection ht with ht;injection ht with t1 t2;subst t1 t2
         split at hw
         ·injection hw with hw;subst hw;simp
         ·cases hw
        ·rw[if_neg a7] at hw
         cases hw
def LpOk (L:List (List UInt8)):List (Int × Nat)→List Nat→Prop
 | [],ls=>ls=[]
 | (k,a) :: r,ls=>1≤k∧a < L.length∧L.getD a []=[91]∧∃ h ls0,ls=ls0++[h]∧drun (L.take (a+1)) 0 []=some (h,ls0++[h])∧LpOk L r ls0
structure HInv (L:List (List UInt8)) (s:Ms):Prop where
 le:s.at'≤L.length
 ex:∃ h ls,drun (L.take s.at') 0 []=some (h,ls)∧s.T.length=h∧LpOk L s.lp ls
theorem take_next {L:List (List UInt8)} {i:Nat} (hi:i < L.length):L.take (i+1)=L.take i++[L[i]]:=by
 rw[List.take_succ_eq_append_getElem hi]
theorem drun_one (x:List UInt8) (h:Nat) (ls:List Nat):drun [x] h ls=dst x h ls:=by
 simp only[drun]
 cases dst x h ls with
 | none=>rfl
 | some p=>rfl
theorem drn_next {L:List (List UInt8)} {i h:Nat} {ls:List Nat} (hi:i < L.length) (e:drun (L.take i) 0 []=some (h,ls)):drun (L.take (i+1)) 0 []=dst L[i] h ls:=by
 rw[take_next hi,drun_append,e]
 exact drun_one _ _ _
theorem drn_some {L:List (List UInt8)} {r:Nat × List Nat} (hk:drun L 0 []=some r) (i:Nat):∃ h ls,drun (L.take i) 0 []=some (h,ls):=by
 have e:=drun_append (L.take i) (L.drop i) 0 []
 rw[List.take_append_drop,hk] at e
 cases hq:drun (L.take i) 0 [] with
 | none=>rw[hq] at e;cases e
 | some p=>exact⟨p.1,p.2,rfl⟩
theorem drn_fmd {L:List (List UInt8)} (hf:fmd true L 0=true):∀ (i h:Nat) (ls:List Nat),i≤L.length→drun (L.take i) 0 []=some (h,ls)→fmd true (L.drop i) ls.length=true∧h≤16:=by
 intro i
 induction i with
 | zero =>
  intro h ls hi e
  simp only[List.take_zero,drun] at e
  injection e with e;injection e with e1 e2;subst e1 e2
  exact⟨by simpa using hf,by omega⟩
 | succ i ih =>
  intro h ls hi e
  have hlt:i < L.length:=by omega
  have e0:=e
  rw[take_next hlt,drun_append] at e
  cases hq:drun (L.take i) 0 [] with
  | none=>rw[hq] at e;cases e
  | some p =>
   obtain⟨h0,ls0⟩:=p
   obtain⟨f1,f2⟩:=ih h0 ls0 (by omega) hq
   rw[drn_next hlt hq] at e0
   rw[List.drop_eq_getElem_cons hlt] at f1
   obtain⟨_,g2,g3⟩:=fmd_cons f1
   have hx:L[i]=[93]→ls0≠[]:=by
    intro h93 he
    rw[h93,he,show ds [93] = -1 by decide] at g2
    simp at g2
   rw[dst_len hx e0]
   exact⟨g3,dst_bd f2 e0⟩
theorem at_word {L:List (List UInt8)} {r:Nat × List Nat} (hk:drun L 0 []=some r) {i h:Nat} {ls:List Nat} (hi:i < L.length) (e:drun (L.take i) 0 []=some (h,ls)):∃ h' ls',dst L[i] h ls=some (h',ls')∧drun (L.take (i+1)) 0 []=some (h',ls'):=by
 obtain⟨h',ls',e'⟩:=drn_some hk (i+1)
 have:=drn_next hi e
 rw[e'] at this
 exact⟨h',ls',this.symm,e'⟩
theorem getD_of {L:List (List UInt8)} {i:Nat} (hi:i < L.length):L.getD i []=L[i]:=by
 rw[List.getD_eq_getElem?_getD,List.getElem?_eq_getElem hi];rfl
theorem dst_91 {h:Nat} {ls:List Nat} {p:Nat × List Nat} (e:dst [91] h ls=some p):h≠0∧p=(h - 1,ls++[h - 1]):=by
 unfold dst at e
 rw[if_pos rfl] at e
 split at e
 ·cases e
 ·rename_i h0
  injection e with e;exact⟨h0,e.symm⟩
theorem dst_93 {h m:Nat} {ls:List Nat} {p:Nat × List Nat} (e:dst [93] h (ls++[m])=some p):h=m∧p=(h,ls):=by
 unfold dst at e
 rw[if_neg (by decide),if_pos rfl] at e
 simp only[List.getLast?_append,List.getLast?_singleton,Option.some_or,List.dropLast_concat] at e
 split at e
 ·rename_i hm
  injection e with e;exact⟨hm,e.symm⟩
 ·cases e
theorem dst_word {x:List UInt8} {h:Nat} {ls:List Nat} {p:Nat × List Nat} (h1:x≠[91]) (h2:x≠[93]) (e:dst x h ls=some p):∃ n m,tk true x=some (n,m)∧n≤h∧h - n+m≤16∧p=(h - n+m,ls):=by
 unfold dst at e
 rw[if_neg h1,if_neg h2] at e
 split at e
 ·cases e
 ·rename_i n m ht
  split at e
  ·rename_i hc
   injection e with e
   exact⟨n,m,ht,hc.1,hc.2,e.symm⟩
  ·cases e
theorem skip {L:List (List UInt8)} (hf:fmd true L 0=true) {r:Nat × List Nat} (hk:drun L 0 []=some r) {a h:Nat} {ls:List Nat} (ha:a < L.length) (hb:L[a]=[91]) (e:drun (L.take a) 0 []=some (h,ls)) :
  ∃ n,clo (L.drop a) a 0=some n∧a < n∧n < L.length∧L.getD n []=[93]∧drun (L.take (n+1)) 0 []=some (h - 1,ls)∧h≠0:=by
 obtain⟨h1,ls1,d1,e1⟩:=at_word hk ha e
 rw[hb] at d1
 obtain⟨hne,d1⟩:=dst_91 d1
 injection d1 with d1 d2
 subst d1 d2
 obtain⟨f1,f2⟩:=drn_fmd hf _ _ _ (by omega) e1
 have f0:=(drn_fmd hf _ _ _ (by omega) e).2
 obtain⟨R1,R2,er,b1,b2,b3⟩:=fmd_split2 (L.drop (a+1)) ls.length 0 (Int.natCast_nonneg _) (by omega) (by
  have:((ls++[h - 1]).length:Int)=(ls.length:Int)+0+1:=by simp
  rw[← this];exact f1)
 have hlen:R1.length+(R2.length+1)=L.length - (a+1):=by
  have:=congrArg List.length er
  simp only[List.length_drop,List.length_append,List.length_cons] at this
  omega
 have hclo:clo (L.drop a) a 0=some (a+1+R1.length):=by
  rw[List.drop_eq_getElem_cons ha,hb]
  simp only[clo,show ds [91]=1 by decide]
  rw[if_neg (by omega)]
  have:=b3 (a+1) []
  rw[List.append_nil] at this
  simpa using this
 have hn:a+1+R1.length < L.length:=by omega
 have hx:L[a+1+R1.length]=[93]:=by
  have h0:(L.drop (a+1))[R1.length]? = some [93]:=by rw[er];simp
  rw[List.getElem?_drop,List.getElem?_eq_getElem hn] at h0
  exact Option.some.inj h0
 have htk:L.take (a+1+R1.length)=L.take (a+1)++R1:=by
  rw[List.take_add,er]
  simp
 obtain⟨h2,ls2,e2⟩:=drn_some hk (a+1+R1.length)
 have e3:=e2
 rw[htk,drun_append,e1] at e3
 simp only at e3
 have hls:=drun_bal b1 (by omega) _ e3
 subst hls
 obtain⟨h3,ls3,d3,e4⟩:=at_word hk hn e2
 rw[hx] at d3
 obtain⟨hm,d3⟩:=dst_93 d3
 injection d3 with d4 d5
 subst d4 d5 hm
 exact⟨_,hclo,by omega,hn,by rw[getD_of hn];exact hx,e4,hne⟩
theorem mstep_inv {L:List (List UInt8)} {E:Ev} (hf:fmd true L 0=true) {r:Nat × List Nat} (hk:drun L 0 []=some r) {s t:Ms} (hs:HInv L s) (hi:s.at' < L.length) (h:mstep L E s=some t):HInv L t:=by
 obtain⟨hh,ls,e,hT,hl⟩:=hs.ex
 obtain⟨h',ls',d,e'⟩:=at_word hk hi e
 unfold mstep at h
 rw[getD_of hi] at h
 split at h
 ·cases h
 ·split at h
  ·rename_i hb
   rw[hb] at d
   obtain⟨hne,d⟩:=dst_91 d
   injection d with d1 d2
   subst d1 d2
   split at h
   ·cases h
   ·rename_i n T hTT
    rw[hTT] at hT
    simp only[List.length_cons] at hT
    split at h
    ·obtain⟨m,m1,m2,m3,m4,m5,m6⟩:=skip hf hk hi hb e
     injection h with h;subst h
     rw[m1]
     exact⟨by simp;omega,hh - 1,ls,m5,by simp;omega,hl⟩
    ·injection h with h;subst h
     exact⟨by simp;omega,hh - 1,ls++[hh - 1],e',by simp;omega,by omega,hi,by rw[getD_of hi];exact hb,hh - 1,ls,rfl,e',hl⟩
  ·split at h
   ·rename_i hb1 hb
    rw[hb] at d
    split at h
    ·cases h
    ·rename_i k a rr hlp
     rw[hlp] at hl
     obtain⟨k1,a1,a2,h0,ls0,rfl,e0,hl0⟩:=hl
     obtain⟨hm,d⟩:=dst_93 d
     injection d with d1 d2
     subst d1 d2 hm
     split at h
     ·injection h with h;subst h
      exact⟨by simp;omega,_,_,e0,hT,by omega,a1,a2,_,_,rfl,e0,hl0⟩
     ·injection h with h;subst h
      exact⟨by simp;omega,_,_,e',hT,hl0⟩
   ·rename_i hb1 hb2
    obtain⟨T,hw,h⟩:=Option.map_eq_some_iff.1 h
    subst h
    obtain⟨n,m,ht,hn,hm,d⟩:=dst_word hb1 hb2 d
    injection d with d1 d2
    subst d1 d2
    obtain⟨w1,w2⟩:=weff_len hb1 hb2 ht hw
    exact⟨by simp;omega,_,_,e',by simp only;rw[w2,hT],hl⟩
theorem hinv0 (L:List (List UInt8)) (f:Nat):HInv L ⟨0,f,[],[]⟩:=⟨Nat.zero_le _,0,[],by simp[drun],rfl,rfl⟩
theorem hinv_end {L:List (List UInt8)} (hk:drun L 0 []=some (1,[])) {s:Ms} (hs:HInv L s) (hi:L.length≤s.at'):s.T.length=1:=by
 obtain⟨hh,ls,e,hT,hl⟩:=hs.ex
 rw[List.take_of_length_le hi,hk] at e
 injection e with e;injection e with e1 e2
 omega
end Go.Proofs.YteflnddphpjahaaGreatDoor.Sp
namespace Go.Proofs.YteflnddphpjahaaGreatDoor
open Go.RowKit
structure Mac (w:World) (M:Nat) (code:Value) (at' fuel:Nat) (E:Sp.Ev) (T:List Int) (loops:Value):Prop where
 c0:w.cell? ⟨M,0,none⟩=some code
 c1:w.cell? ⟨M,1,none⟩=some (.int .i64 at')
 c2:w.cell? ⟨M,2,none⟩=some (.int .i64 fuel)
 e0:w.cell? ⟨M,3,none⟩=some (.int .i64 E.value)
 e1:w.cell? ⟨M,4,none⟩=some (.int .i64 E.inn)
 e2:w.cell? ⟨M,5,none⟩=some (.int .i64 E.got)
 e3:w.cell? ⟨M,6,none⟩=some (.int .i64 E.step)
 e4:w.cell? ⟨M,7,none⟩=some (.int .i64 E.id)
 e5:w.cell? ⟨M,8,none⟩=some (.int .i64 E.deg)
 e6:w.cell? ⟨M,9,none⟩=some (.int .i64 E.all)
 e7:w.cell? ⟨M,10,none⟩=some (.int .i64 E.old)
 e8:w.cell? ⟨M,11,none⟩=some (.int .i64 E.weight)
 st:∀ j,j < 16→∃ n:Int,w.cell? ⟨M,12+j,none⟩=some (.int .i64 n)
 sv:∀ j (hj:j < T.length),w.cell? ⟨M,12+(T.length - 1 - j),none⟩=some (.int .i64 T[j])
 hh:w.cell? ⟨M,28,none⟩=some (.int .i64 T.length)
 ll:w.cell? ⟨M,29,none⟩=some loops
 dr:w.cell? ⟨M,30,none⟩=some (.bool false)
 fz:∀ j,w.frozen? ⟨M,j,none⟩=false
 le:T.length≤16
theorem Mac.lt {w:World} {M at' fuel:Nat} {E:Sp.Ev} {T:List Int} {code loops:Value} (hd:Mac w M code at' fuel E T loops):M < w.heap.size:=World.block_lt_of_cell? w _ hd.c0
theorem Mac.drew {w:World} {M at' fuel:Nat} {E:Sp.Ev} {T:List Int} {code loops:Value} (h:Mac w M code at' fuel E T loops):Mac w.drew M code at' fuel E T loops:=⟨h.c0,h.c1,h.c2,h.e0,h.e1,h.e2,h.e3,h.e4,h.e5,h.e6,h.e7,h.e8,h.st,h.sv,h.hh,h.ll,h.dr,h.fz,h.le⟩
theorem Mac.drewN {w:World} {M at' fuel:Nat} {E:Sp.Ev} {T:List Int} {code loops:Value} (h:Mac w M code at' fuel E T loops) (n:Nat):Mac (w.drewN n) M code at' fuel E T loops:=⟨h.c0,h.c1,h.c2,h.e0,h.e1,h.e2,h.e3,h.e4,h.e5,h.e6,h.e7,h.e8,h.st,h.sv,h.hh,h.ll,h.dr,h.fz,h.le⟩
theorem Only.drewN {M:Nat} {w w':World} (h:Only M w w') (n:Nat):Only M w (w'.drewN n):=⟨h.1,h.2,h.os,h.tape,h.output⟩
theorem Mac.push {w:World} {M at' fuel:Nat} {E:Sp.Ev} {T:List Int} {code loops:Value} (h:Mac w M code at' fuel E T loops) (hl:T.length < 16) (v:Int) :
  Mac ((w.setCell ⟨M,12+T.length,none⟩ (.int .i64 v)).setCell ⟨M,28,none⟩ (.int .i64 ((T.length+1:Nat):Int))) M code at' fuel E (v :: T) loops:=by
 have ho:∀ j,j < 12∨28 < j→((w.setCell ⟨M,12+T.length,none⟩ (.int .i64 v)).setCell ⟨M,28,none⟩ (.int .i64 ((T.length+1:Nat):Int))).cell? ⟨M,j,none⟩=w.cell? ⟨M,j,none⟩:=fun j hj=>by
  rw[cso (by omega),cso (by omega)]
 obtain⟨x0,hx0⟩:=h.st T.length hl
 refine⟨(ho 0 (by omega)).trans h.c0,(ho 1 (by omega)).trans h.c1,(ho 2 (by omega)).trans h.c2,(ho 3 (by omega)).trans h.e0,(ho 4 (by omega)).trans h.e1,(ho 5 (by omega)).trans h.e2,(ho 6 (by omega)).trans h.e3,(ho 7 (by omega)).trans h.e4,(ho 8 (by omega)).trans h.e5,(ho 9 (by omega)).trans h.e6,(ho 10 (by omega)).trans h.e7,(ho 11 (by omega)).trans h.e8,fun j hj=>?_,fun j hj=>?_,?_,(ho 29 (by omega)).trans h.ll,(ho 30 (by omega)).trans h.dr,fun j=>?_,by simp;omega⟩
 ·rw[cso (by omega)]
  by_cases e:T.length=j
  ·subst e;exact⟨v,World.cell?_setCell_same _ _ _ hx0⟩
  ·rw[cso (by omega)];exact h.st j hj
 ·simp only[List.length_cons] at hj
  rw[List.length_cons,cso (by omega)]
  cases j with
  | zero =>
   rw[show T.length+1 - 1 - 0=T.length by omega]
   exact World.cell?_setCell_same _ _ _ hx0
  | succ j =>
   rw[show T.length+1 - 1 - (j+1)=T.length - 1 - j by omega,cso (by omega)]
   exact h.sv j (by omega)
 ·have h28:(w.setCell ⟨M,12+T.length,none⟩ (.int .i64 v)).cell? ⟨M,28,none⟩=some (.int .i64 T.length):=(cso (by omega)).trans h.hh
  exact World.cell?_setCell_same _ _ _ h28
 ·rw[World.frozen?_setCell,World.frozen?_setCell];exact h.fz j
theorem Mac.pop {w:World} {M at' fuel:Nat} {E:Sp.Ev} {v:Int} {T:List Int} {code loops:Value} (h:Mac w M code at' fuel E (v :: T) loops) :
  Mac (w.setCell ⟨M,28,none⟩ (.int .i64 (T.length:Int))) M code at' fuel E T loops∧w.cell? ⟨M,12+T.length,none⟩=some (.int .i64 v):=by
 have ho:∀ j,j≠28→(w.setCell ⟨M,28,none⟩ (.int .i64 (T.length:Int))).cell? ⟨M,j,none⟩=w.cell? ⟨M,j,none⟩:=fun j hj=>cso (by omega)
 have hle:=h.le
 simp only[List.length_cons] at hle
 refine⟨⟨(ho 0 (by omega)).trans h.c0,(ho 1 (by omega)).trans h.c1,(ho 2 (by omega)).trans h.c2,(ho 3 (by omega)).trans h.e0,(ho 4 (by omega)).trans h.e1,(ho 5 (by omega)).trans h.e2,(ho 6 (by omega)).trans h.e3,(ho 7 (by omega)).trans h.e4,(ho 8 (by omega)).trans h.e5,(ho 9 (by omega)).trans h.e6,(ho 10 (by omega)).trans h.e7,(ho 11 (by omega)).trans h.e8,fun j hj=>?_,fun j hj=>?_,World.cell?_setCell_same _ _ _ h.hh,(ho 29 (by omega)).trans h.ll,(ho 30 (by omega)).trans h.dr,fun j=>?_,by omega⟩,?_⟩
 ·rw[ho _ (by omega)];exact h.st j hj
 ·rw[ho _ (by omega)]
  have:=h.sv (j+1) (by simp;omega)
  simp only[List.length_cons,List.getElem_cons_succ] at this
  rw[show T.length+1 - 1 - (j+1)=T.length - 1 - j by omega] at this
  exact this
 ·rw[World.frozen?_setCell];exact h.fz j
 ·have:=h.sv 0 (by simp)
  simp only[List.length_cons,List.getElem_cons_zero] at this
  rw[show T.length+1 - 1 - 0=T.length by omega] at this
  exact this
theorem mput (v:Int) (M at' fuel:Nat) (E:Sp.Ev) (T:List Int) (code loops:Value) (w:World) (hd:Mac w M code at' fuel E T loops) (hl:T.length < 16):Calls Tryz.prog 173 #[.pointer (some ⟨M,0,none⟩),.int .i64 v] w fun e w'=>e = .returned (.tuple #[])∧Mac w' M code at' fuel E (v :: T) loops∧Only M w w':=by
 have e1:=hd.hh
 obtain⟨x,e2⟩:=hd.st T.length hl
 have e3:=hd.fz (12+T.length)
 have e4:=hd.fz 28
 have HP:=hde (hd.push hl v)
 generalize T.length=h at *
 have g1:(((h:Nat):Int) == 16)=false:=beq_eq_false_iff_ne.2 (by omega)
 have g2:(0:Int)≤(h:Int):=Int.natCast_nonneg _
 have g3:(h:Int) < (16:Int):=by omega
 clear hd
 go_enter Tryz.func173,Tryz.ntmps173
 go_wp2
 go_region
 go_wp2
 exact bodyPost_end (results_none rfl _ _ _) rfl ⟨rfl,(uh HP).drew,(((Only.refl M w).set _ _).set _ _).drew⟩
theorem mtake (v:Int) (M at' fuel:Nat) (E:Sp.Ev) (T:List Int) (code loops:Value) (w:World) (hd:Mac w M code at' fuel E (v :: T) loops):Calls Tryz.prog 195 #[.pointer (some ⟨M,0,none⟩)] w fun e w'=>e = .returned (.int .i64 v)∧Mac w' M code at' fuel E T loops∧Only M w w':=by
 have e1:=hd.hh
 have e4:=hd.fz 28
 have e5:=hd.dr
 obtain⟨hp,e6⟩:=hd.pop
 have HP:=hde hp
 have hle:=hd.le
 simp only[List.length_cons] at e1 hle
 clear hd hp
 generalize T.length=h at *
 have g1:((((h+1:Nat)):Int) == 0)=false:=beq_eq_false_iff_ne.2 (by omega)
 have g2:((h+1:Nat):Int) - 1=(h:Int):=by omega
 have g3:(0:Int)≤(h:Int):=Int.natCast_nonneg _
 have g4:(h:Int) < (16:Int):=by omega
 go_enter Tryz.func195,Tryz.ntmps195
 go_wp2
 have k1:(w.setCell ⟨M,28,none⟩ (.int .i64 (h:Int))).cell? ⟨M,28,none⟩=some (.int .i64 (h:Int)):=World.cell?_setCell_same _ _ _ e1
 have k2:(w.setCell ⟨M,28,none⟩ (.int .i64 (h:Int))).cell? ⟨M,12+h,none⟩=some (.int .i64 v):=(cso (by omega)).trans e6
 have HO:=hde ((Only.refl M w).set 28 (.int .i64 (h:Int)))
 generalize w.setCell ⟨M,28,none⟩ (.int .i64 (h:Int))=W at *
 clear e1 e4 e5 e6
 go_quiet (fail)
 go_wp2
 exact bodyPost_ret (v := .int .i64 v) (by simp[results,Tryz.results195,go_sem]) rfl ⟨rfl,(uh HP).drewN _,(uh HO).drewN _⟩
theorem mtake2 (a b:Int) (M at' fuel:Nat) (E:Sp.Ev) (T:List Int) (code loops:Value) (w:World) (hd:Mac w M code at' fuel E (b :: a :: T) loops):Calls Tryz.prog 183 #[.pointer (some ⟨M,0,none⟩)] w fun e w'=>e = .returned (.tuple #[.int .i64 a,.int .i64 b])∧Mac w' M code at' fuel E T loops∧Only M w w':=by
 go_enter Tryz.func183,Tryz.ntmps183
 go_wp2_with fail
 refine(mtake b M at' fuel E (a :: T) code loops w hd).mono ?_
 rintro e w1 ⟨rfl,hd1,ho1⟩
 go_wp2_with fail
 refine(mtake a M at' fuel E T code loops w1 hd1).mono ?_
 rintro e w2 ⟨rfl,hd2,ho2⟩
 go_wp2
 exact bodyPost_ret (v := .tuple #[.int .i64 a,.int .i64 b]) (by simp[results,Tryz.results183,go_sem]) rfl ⟨rfl,hd2,ho1.trans ho2⟩
theorem mtakeQ (a b:Int) (M at' fuel:Nat) (E:Sp.Ev) (T:List Int) (code loops:Value) (w:World) (hd:Mac w M code at' fuel E (b :: a :: T) loops) (hb:¬ b=0):Calls Tryz.prog 187 #[.pointer (some ⟨M,0,none⟩)] w fun e w'=>e = .returned (.tuple #[.int .i64 a,.int .i64 b])∧Mac w' M code at' fuel E T loops∧Only M w w':=by
 have hb2:(b == 0)=false:=beq_eq_false_iff_ne.2 hb
 go_enter Tryz.func187,Tryz.ntmps187
 go_wp2_with fail
 refine(mtake2 a b M at' fuel E T code loops w hd).mono ?_
 rintro e w1 ⟨rfl,hd1,ho1⟩
 go_wp2
 exact bodyPost_ret (v := .tuple #[.int .i64 a,.int .i64 b]) (by simp[results,Tryz.results187,go_sem]) rfl ⟨rfl,hd1,ho1⟩
theorem mtakeZ (a:Int) (M at' fuel:Nat) (E:Sp.Ev) (T:List Int) (code loops:Value) (w:World) (hd:Mac w M code at' fuel E (0 :: a :: T) loops) (hM:1≠M) (u:TypeId) (p:Value) (he:w.cell? ⟨1,0,none⟩=some (.iface u p)):Calls Tryz.prog 187 #[.pointer (some ⟨M,0,none⟩)] w fun e w'=>e = .panicked [{ v := .iface u p,recovered:=false }]∧Only M w w':=by
 go_enter Tryz.func187,Tryz.ntmps187
 go_wp2_with fail
 refine(mtake2 a 0 M at' fuel E T code loops w hd).mono ?_
 rintro e w1 ⟨rfl,hd1,ho1⟩
 have he1:=(ho1.cell hM).trans he
 go_wp2
 exact⟨rfl,rfl,ho1⟩
theorem mputT (q:Bool) (M at' fuel:Nat) (E:Sp.Ev) (T:List Int) (code loops:Value) (w:World) (hd:Mac w M code at' fuel E T loops) (hl:T.length < 16):Calls Tryz.prog 190 #[.pointer (some ⟨M,0,none⟩),.bool q] w fun e w'=>e = .returned (.tuple #[])∧Mac w' M code at' fuel E ((if q=true then 1 else 0) :: T) loops∧Only M w w':=by
 cases q with
 | true =>
  go_enter Tryz.func190,Tryz.ntmps190
  go_wp2_with fail
  refine(mput 1 M at' fuel E T code loops w hd hl).mono ?_
  rintro e w1 ⟨rfl,hd1,ho1⟩
  go_wp2
  exact bodyPost_end (results_none rfl _ _ _) rfl ⟨rfl,hd1,ho1⟩
 | false =>
  go_enter Tryz.func190,Tryz.ntmps190
  go_wp2_with fail
  refine(mput 0 M at' fuel E T code loops w hd hl).mono ?_
  rintro e w1 ⟨rfl,hd1,ho1⟩
  go_wp2
  exact bodyPost_end (results_none rfl _ _ _) rfl ⟨rfl,hd1,ho1⟩
def MPost (o:Option (List Int)) (M at' fuel:Nat) (E:Sp.Ev) (code loops:Value) (u:TypeId) (p:Value) (w:World) (e:Ending) (w':World):Prop :=
 Only M w w'∧match o with
  | some T=>e = .returned (.tuple #[])∧Mac w' M code at' fuel E T loops
  | none=>e = .panicked [{ v := .iface u p,recovered:=false }]
structure MacEnv (M:Nat) (u:TypeId) (p:Value) (w:World):Prop where
 hM:1≠M
 he:w.cell? ⟨1,0,none⟩=some (.iface u p)
def MDoes (F:Nat) (x:List UInt8) (n m:Nat):Prop := ∀ (M at' fuel:Nat) (E:Sp.Ev) (T:List Int) (code loops:Value) (u:TypeId) (p:Value) (w:World),Mac w M code at' fuel E T loops→MacEnv M u p w→n≤T.length→T.length - n+m≤16 →
 Calls Tryz.prog F #[.pointer (some ⟨M,0,none⟩)] w (MPost (Sp.weff E x T) M at' fuel E code loops u p w)
theorem two_of {T:List Int} (h:2≤T.length):∃ b a r,T=b :: a :: r:=by
 match T,h with
 | b :: a :: r,_=>exact⟨b,a,r,rfl⟩
theorem one_of {T:List Int} (h:1≤T.length):∃ a r,T=a :: r:=by
 match T,h with
 | a :: r,_=>exact⟨a,r,rfl⟩
theorem three_of {T:List Int} (h:3≤T.length):∃ c b a r,T=c :: b :: a :: r:=by
 match T,h with
 | c :: b :: a :: r,_=>exact⟨c,b,a,r,rfl⟩
namespace Sp
theorem weff_ld {E:Ev} {x:List UInt8} {T:List Int} (h0:number x=none) (h:x ∈ loadsL∨x=[119,101,105,103,104,116]):weff E x T=some (ldv E x :: T):=by
 unfold weff;rw[h0];simp only;rw[if_pos h]
theorem weff_two {E:Ev} {x:List UInt8} {a b:Int} {r:List Int} (h0:number x=none) (h1:¬ (x ∈ loadsL∨x=[119,101,105,103,104,116])) (h:x ∈ twosL):weff E x (b :: a :: r)=(op2 x a b).map (· :: r):=by
 unfold weff;rw[h0];simp only;rw[if_neg h1,if_pos h]
end Sp
theorem mdo_1:MDoes 172 [118,97,108,117,101] 0 1:=by
 intro M at' fuel E T code loops u p w hd hv hn hm
 have hc:=hd.e0
 rw[Sp.weff_ld (by decide) (by decide),show Sp.ldv E [118,97,108,117,101]=E.value by simp[Sp.ldv]]
 go_enter Tryz.func172,Tryz.ntmps172
 go_wp2_with fail
 refine(mput E.value M at' fuel E T code loops w hd (by omega)).mono ?_
 rintro e w1 ⟨rfl,hd1,ho1⟩
 go_wp2
 exact bodyPost_end (results_none rfl _ _ _) rfl ⟨ho1,rfl,hd1⟩
theorem mdo_2:MDoes 174 [111,108,100] 0 1:=by
 intro M at' fuel E T code loops u p w hd hv hn hm
 have hc:=hd.e7
 rw[Sp.weff_ld (by decide) (by decide),show Sp.ldv E [111,108,100]=E.old by simp[Sp.ldv]]
 go_enter Tryz.func174,Tryz.ntmps174
 go_wp2_with fail
 refine(mput E.old M at' fuel E T code loops w hd (by omega)).mono ?_
 rintro e w1 ⟨rfl,hd1,ho1⟩
 go_wp2
 exact bodyPost_end (results_none rfl _ _ _) rfl ⟨ho1,rfl,hd1⟩
theorem mdo_3:MDoes 175 [105,110] 0 1:=by
 intro M at' fuel E T code loops u p w hd hv hn hm
 have hc:=hd.e1
 rw[Sp.weff_ld (by decide) (by decide),show Sp.ldv E [105,110]=E.inn by simp[Sp.ldv]]
 go_enter Tryz.func175,Tryz.ntmps175
 go_wp2_with fail
 refine(mput E.inn M at' fuel E T code loops w hd (by omega)).mono ?_
 rintro e w1 ⟨rfl,hd1,ho1⟩
 go_wp2
 exact bodyPost_end (results_none rfl _ _ _) rfl ⟨ho1,rfl,hd1⟩
theorem mdo_4:MDoes 176 [103,111,116] 0 1:=by
 intro M at' fuel E T code loops u p w hd hv hn hm
 have hc:=hd.e2
 rw[Sp.weff_ld (by decide) (by decide),show Sp.ldv E [103,111,116]=E.got by simp[Sp.ldv]]
 go_enter Tryz.func176,Tryz.ntmps176
 go_wp2_with fail
 refine(mput E.got M at' fuel E T code loops w hd (by omega)).mono ?_
 rintro e w1 ⟨rfl,hd1,ho1⟩
 go_wp2
 exact bodyPost_end (results_none rfl _ _ _) rfl ⟨ho1,rfl,hd1⟩
theorem mdo_5:MDoes 177 [115,116,101,112] 0 1:=by
 intro M at' fuel E T code loops u p w hd hv hn hm
 have hc:=hd.e3
 rw[Sp.weff_ld (by decide) (by decide),show Sp.ldv E [115,116,101,112]=E.step by simp[Sp.ldv]]
 go_enter Tryz.func177,Tryz.ntmps177
 go_wp2_with fail
 refine(mput E.step M at' fuel E T code loops w hd (by omega)).mono ?_
 rintro e w1 ⟨rfl,hd1,ho1⟩
 go_wp2
 exact bodyPost_end (results_none rfl _ _ _) rfl ⟨ho1,rfl,hd1⟩
theorem mdo_6:MDoes 178 [105,100] 0 1:=by
 intro M at' fuel E T code loops u p w hd hv hn hm
 have hc:=hd.e4
 rw[Sp.weff_ld (by decide) (by decide),show Sp.ldv E [105,100]=E.id by simp[Sp.ldv]]
 go_enter Tryz.func178,Tryz.ntmps178
 go_wp2_with fail
 refine(mput E.id M at' fuel E T code loops w hd (by omega)).mono ?_
 rintro e w1 ⟨rfl,hd1,ho1⟩
 go_wp2
 exact bodyPost_end (results_none rfl _ _ _) rfl ⟨ho1,rfl,hd1⟩
theorem mdo_7:MDoes 179 [100,101,103] 0 1:=by
 intro M at' fuel E T code loops u p w hd hv hn hm
 have hc:=hd.e5
 rw[Sp.weff_ld (by decide) (by decide),show Sp.ldv E [100,101,103]=E.deg by simp[Sp.ldv]]
 go_enter Tryz.func179,Tryz.ntmps179
 go_wp2_with fail
 refine(mput E.deg M at' fuel E T code loops w hd (by omega)).mono ?_
 rintro e w1 ⟨rfl,hd1,ho1⟩
 go_wp2
 exact bodyPost_end (results_none rfl _ _ _) rfl ⟨ho1,rfl,hd1⟩
theorem mdo_8:MDoes 180 [97,108,108] 0 1:=by
 intro M at' fuel E T code loops u p w hd hv hn hm
 have hc:=hd.e6
 rw[Sp.weff_ld (by decide) (by decide),show Sp.ldv E [97,108,108]=E.all by simp[Sp.ldv]]
 go_enter Tryz.func180,Tryz.ntmps180
 go_wp2_with fail
 refine(mput E.all M at' fuel E T code loops w hd (by omega)).mono ?_
 rintro e w1 ⟨rfl,hd1,ho1⟩
 go_wp2
 exact bodyPost_end (results_none rfl _ _ _) rfl ⟨ho1,rfl,hd1⟩
theorem mdo_9:MDoes 181 [119,101,105,103,104,116] 0 1:=by
 intro M at' fuel E T code loops u p w hd hv hn hm
 have hc:=hd.e8
 rw[Sp.weff_ld (by decide) (by decide),show Sp.ldv E [119,101,105,103,104,116]=E.weight by simp[Sp.ldv]]
 go_enter Tryz.func181,Tryz.ntmps181
 go_wp2_with fail
 refine(mput E.weight M at' fuel E T code loops w hd (by omega)).mono ?_
 rintro e w1 ⟨rfl,hd1,ho1⟩
 go_wp2
 exact bodyPost_end (results_none rfl _ _ _) rfl ⟨ho1,rfl,hd1⟩
theorem mdo_10:MDoes 182 [43] 2 1:=by
 intro M at' fuel E T code loops u p w hd hv hn hm
 obtain⟨b,a,r,rfl⟩:=two_of hn
 simp only[List.length_cons] at hm
 rw[Sp.weff_two (by decide) (by decide) (by decide),show Sp.op2 [43] a b=some (wrap64 (a+b)) by simp[Sp.op2]]
 go_enter Tryz.func182,Tryz.ntmps182
 go_wp2_with fail
 refine(mtake2 a b M at' fuel E r code loops w hd).mono ?_
 rintro e w1 ⟨rfl,hd1,ho1⟩
 go_wp2_with fail
 refine(mput (wrap64 (a+b)) M at' fuel E r code loops w1 hd1 (by omega)).mono ?_
 rintro e w2 ⟨rfl,hd2,ho2⟩
 go_wp2
 exact bodyPost_end (results_none rfl _ _ _) rfl ⟨ho1.trans ho2,rfl,hd2⟩
theorem mdo_11:MDoes 184 [45] 2 1:=by
 intro M at' fuel E T code loops u p w hd hv hn hm
 obtain⟨b,a,r,rfl⟩:=two_of hn
 simp only[List.length_cons] at hm
 rw[Sp.weff_two (by decide) (by decide) (by decide),show Sp.op2 [45] a b=some (wrap64 (a - b)) by simp[Sp.op2]]
 go_enter Tryz.func184,Tryz.ntmps184
 go_wp2_with fail
 refine(mtake2 a b M at' fuel E r code loops w hd).mono ?_
 rintro e w1 ⟨rfl,hd1,ho1⟩
 go_wp2_with fail
 refine(mput (wrap64 (a - b)) M at' fuel E r code loops w1 hd1 (by omega)).mono ?_
 rintro e w2 ⟨rfl,hd2,ho2⟩
 go_wp2
 exact bodyPost_end (results_none rfl _ _ _) rfl ⟨ho1.trans ho2,rfl,hd2⟩
theorem mdo_12:MDoes 185 [42] 2 1:=by
 intro M at' fuel E T code loops u p w hd hv hn hm
 obtain⟨b,a,r,rfl⟩:=two_of hn
 simp only[List.length_cons] at hm
 rw[Sp.weff_two (by decide) (by decide) (by decide),show Sp.op2 [42] a b=some (wrap64 (a * b)) by simp[Sp.op2]]
 go_enter Tryz.func185,Tryz.ntmps185
 go_wp2_with fail
 refine(mtake2 a b M at' fuel E r code loops w hd).mono ?_
 rintro e w1 ⟨rfl,hd1,ho1⟩
 go_wp2_with fail
 refine(mput (wrap64 (a * b)) M at' fuel E r code loops w1 hd1 (by omega)).mono ?_
 rintro e w2 ⟨rfl,hd2,ho2⟩
 go_wp2
 exact bodyPost_end (results_none rfl _ _ _) rfl ⟨ho1.trans ho2,rfl,hd2⟩
end Go.Proofs.YteflnddphpjahaaGreatDoor
