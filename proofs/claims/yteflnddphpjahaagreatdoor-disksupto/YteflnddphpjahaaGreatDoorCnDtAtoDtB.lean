import Derived.Test.YteflnddphpjahaaGreatDoorProg
import Derived.Test.YteflnddphpjahaaGreatDoorCnPlAtoCom
import Derived.Test.YteflnddphpjahaaGreatDoorCnSameAtoDpA
import Derived.WalkKit
import Derived.Outline
import Derived.Deep.DeepMust
import Derived.Laws.Cover1
import Derived.Laws.CopyRow
import Derived.Laws.CopyOwn
import Derived.Shelf.Spec.SlicesInsertGrow
set_option linter.unusedVariables false
set_option linter.unusedSimpArgs false
set_option maxRecDepth 100000
set_option maxHeartbeats 16000000
namespace Go.Proofs.YteflnddphpjahaaGreatDoor.Dk
open Go.RowKit
theorem isNaN_str (x:ByteArray) (w:World):Calls Tryz.prog 354 #[.string x] w fun e w'=>e = .returned (.bool false)∧w'=w:=by
 have h:(x.toList == x.toList)=true:=by simp
 go_enter Tryz.func354,Tryz.ntmps354
 go_wp2
 go_ret
 exact⟨rfl,rfl⟩
def fptr (f:Nat):Value := .pointer (some ⟨f,0,none⟩)
def cmpS (x y:ByteArray):Int:=if Sd.lt x y=true then -1 else if Sd.lt y x=true then 1 else 0
theorem compare_str (x y:ByteArray) (w:World):Calls Tryz.prog 330 #[.string x,.string y] w fun e w'=>e = .returned (.int .i64 (cmpS x y))∧w'=w:=by
 rcases Sd.lt_tri x y with h | h | h
 ·have e1:cmpS x y = -1:=if_pos h
  have e2:Op.bytesLess x.toList y.toList=true:=h
  rw[e1];clear e1 h
  go_enter Tryz.func330,Tryz.ntmps330
  go_wp2_with (go_at_call 354;refine(isNaN_str _ _).mono ?_;rintro e w' ⟨rfl,rfl⟩)
  go_ret
  exact⟨rfl,rfl⟩
 ·subst h
  have e1:cmpS x x=0:=by simp[cmpS,Sd.lt_irrefl]
  have e2:Op.bytesLess x.toList x.toList=false:=Sd.lt_irrefl x
  have e3:(x.toList == x.toList)=true:=by simp
  rw[e1];clear e1
  go_enter Tryz.func330,Tryz.ntmps330
  go_wp2_with (go_at_call 354;refine(isNaN_str _ _).mono ?_;rintro e w' ⟨rfl,rfl⟩)
  go_ret
  exact⟨rfl,rfl⟩
 ·have e1:cmpS x y=1:=by unfold cmpS;rw[Sd.lt_asymm h,if_neg (by decide),if_pos h]
  have e2:Op.bytesLess x.toList y.toList=false:=Sd.lt_asymm h
  have e3:(x.toList == y.toList)=false:=by
   apply Bool.eq_false_iff.2
   intro hh
   exact Sd.lt_ne h (Sd.toList_inj (eq_of_beq hh)).symm
  rw[e1];clear e1 h
  go_enter Tryz.func330,Tryz.ntmps330
  go_wp2_with (go_at_call 354;refine(isNaN_str _ _).mono ?_;rintro e w' ⟨rfl,rfl⟩)
  go_ret
  exact⟨rfl,rfl⟩
theorem placeCmp (a:ByteArray) (v:Value) (y:ByteArray) (w:World):Calls Tryz.prog 329 #[.agg #[.string a,v],.string y] w fun e w'=>e = .returned (.int .i64 (cmpS a y))∧Below w.heap.size w w':=by
 go_enter Tryz.func329,Tryz.ntmps329
 go_wp2_with (go_at_call 330;refine(compare_str _ _ _).mono ?_;rintro e w' ⟨rfl,rfl⟩)
 go_ret
 exact⟨rfl,(Below.refl _ _).alloc nlr _⟩
def EntsAt (w:World) (p:Option Addr) (T:Sd.Tb):Prop := ∀ j (h:j < T.length),∃ g,p=some ⟨g,0,none⟩∧w.cell? ⟨g,j * 2,none⟩=some (.string (T[j]).1)∧w.cell? ⟨g,j * 2+1,none⟩=some (fptr (T[j]).2)
theorem EntsAt.below {w w':World} {p:Option Addr} {T:Sd.Tb} (h:EntsAt w p T) (hb:Below w.heap.size w w'):EntsAt w' p T:=fun j hj=>by
 obtain⟨g,e,c0,c1⟩:=h j hj
 exact⟨g,e,(hb.cell (World.block_lt_of_cell? w _ c0)).trans c0,(hb.cell (World.block_lt_of_cell? w _ c1)).trans c1⟩
theorem search_any (p:Option Addr) (cap:Nat) (T:Sd.Tb) (y:ByteArray) (w:World) (h:EntsAt w p T) (hT:Sd.tsorted T) (hl:T.length≤100000) :
  Calls Tryz.prog 328 #[.slice p T.length cap,.string y,.func (.func 329) #[] #[]] w fun e w'=>e = .returned (.tuple #[.int .i64 (Sd.tlow T y:Nat),.bool (Sd.thas T y)])∧Below w.heap.size w w':=by
 go_enter Tryz.func328,Tryz.ntmps328
 go_wp2
 go_loopw [9,10] (fun a b wr=>∃ i j:Nat,i≤j∧j≤T.length∧a = .int .i64 i∧b = .int .i64 j∧Below w.heap.size w wr∧(∀ k (hk:k < T.length),k < i→Sd.lt (T[k]).1 y=true)∧(∀ k (hk:k < T.length),j≤k→Sd.lt (T[k]).1 y=false)) (fun a b _=>(intOf b - intOf a).toNat)
 case atStart=>exact⟨0,T.length,Nat.zero_le _,Nat.le_refl _,rfl,rfl,Below.refl _ _,fun k hk h=>by omega,fun k hk h=>by omega⟩
 case round =>
  obtain⟨i,j,hij,hj,rfl,rfl,hb,hlo,hhi⟩:=hrel
  have HLO:=hde hlo
  have HHI:=hde hhi
  clear hlo hhi
  by_cases hlt:i < j
  ·have hm0:(i+j) / 2 < T.length:=by omega
   have hm1:i≤(i+j) / 2:=by omega
   have hm2:(i+j) / 2 < j:=by omega
   have hlt':(i:Int) < (j:Int):=by omega
   obtain⟨g,hp,c0,c1⟩:=(h.below hb) ((i+j) / 2) (by omega)
   subst hp
   obtain⟨x,hx⟩:∃ x,(T[(i+j) / 2]).1=x:=⟨_,rfl⟩
   obtain⟨v,hv⟩:∃ x,(T[(i+j) / 2]).2=x:=⟨_,rfl⟩
   rw[hx] at c0
   rw[hv] at c1
   have HX:=hde hx
   clear hx hv
   cases hxy:Sd.lt x y with
   | true =>
    have HXY:=hde hxy
    have HC:Hid (cmpS x y = -1):=if_pos hxy
    clear hxy
    go_wp2_with (go_at_call 329;refine(placeCmp _ _ _ _).mono ?_;rintro e w' ⟨rfl,hb2⟩;rw[uh HC])
    go_roundw
    case rel =>
     refine⟨(i+j) / 2+1,j,by omega,hj,by go_num,rfl,hb.trans (hb2.mono hb.size),fun k hk hki=>?_,uh HHI⟩
     have h1:=Sd.tsorted_le hT (i:=k) (j:=(i+j) / 2) (by omega) hm0
     rw[uh HX] at h1
     exact Sd.lt_of_le h1 (uh HXY)
    case measure=>simp[intOf];omega
   | false =>
    have HC:Hid (0≤cmpS x y):=by show _≤_;unfold cmpS;rw[hxy];simp;split <;> omega
    have HXY:=hde hxy
    clear hxy
    obtain⟨c,hc⟩:∃ c,cmpS x y=c:=⟨_,rfl⟩
    rw[hc] at HC
    have HC2:=hde hc
    have hc0:0≤c:=uh HC
    clear hc
    go_wp2_with (go_at_call 329;refine(placeCmp _ _ _ _).mono ?_;rintro e w' ⟨rfl,hb2⟩;rw[uh HC2])
    go_roundw
    case rel =>
     refine⟨i,(i+j) / 2,by omega,by omega,rfl,by go_num,hb.trans (hb2.mono hb.size),uh HLO,fun k hk hki=>?_⟩
     have h1:=Sd.tsorted_le hT (i:=(i+j) / 2) (j:=k) (by omega) hk
     rw[uh HX] at h1
     cases h2:Sd.lt (T[k]).1 y with
     | false=>rfl
     | true=>have:=Sd.lt_of_le h1 h2;rw[uh HXY] at this;cases this
    case measure=>simp[intOf];omega
  ·have hji:j=i:=by omega
   subst hji
   have HL:Hid (Sd.tlow T y=j):=Sd.tlow_at hj (uh HLO) (uh HHI)
   by_cases hjl:j < T.length
   ·have hjl':(j:Int) < (T.length:Int):=by omega
    obtain⟨g,hp,c0,c1⟩:=(h.below hb) j hjl
    subst hp
    have HH:=hde (Sd.thas_at hT y)
    obtain⟨x,hx⟩:∃ x,(T[j]).1=x:=⟨_,rfl⟩
    obtain⟨v,hv⟩:∃ x,(T[j]).2=x:=⟨_,rfl⟩
    rw[hx] at c0
    rw[hv] at c1
    have HX:=hde hx
    clear hx hv
    obtain⟨c,hc⟩:∃ c,cmpS x y=c:=⟨_,rfl⟩
    have HC2:=hde hc
    have HE:Hid (Sd.thas T y=(c == 0)):=by
     show _=_
     have h1:(c == 0)=decide (x=y):=by
      rw[← hc];unfold cmpS
      rcases Sd.lt_tri x y with h | h | h
      ·rw[if_pos h,decide_eq_false (Sd.lt_ne h)];rfl
      ·subst h;simp[Sd.lt_irrefl]
      ·rw[Sd.lt_asymm h,if_neg (by decide),if_pos h,decide_eq_false (fun e=>Sd.lt_ne h e.symm)];rfl
     rw[h1]
     apply Bool.eq_iff_iff.2
     rw[uh HH,decide_eq_true_iff]
     constructor
     ·rintro⟨hq,e⟩
      have e2:T[Sd.tlow T y]=T[j]:=by congr 1 <;> exact uh HL
      rw[e2] at e;rw[← e];exact(uh HX).symm
     ·intro e
      have e2:T[Sd.tlow T y]'(by rw[uh HL];exact hjl)=T[j]:=by congr 1 <;> exact uh HL
      exact⟨by rw[uh HL];exact hjl,by rw[e2];exact(uh HX).trans e⟩
    clear hc
    go_wp2_with (go_at_call 329;refine(placeCmp _ _ _ _).mono ?_;rintro e w' ⟨rfl,hb2⟩;rw[uh HC2])
    exact bodyPost_ret (v := .tuple #[.int .i64 j,.bool (c == 0)]) (by simp[results,Tryz.results328,go_sem]) rfl ⟨by rw[uh HL,uh HE],hb.trans (hb2.mono hb.size)⟩
   ·have hjl':¬ (j:Int) < (T.length:Int):=by omega
    have hj2:(T.length:Int)≤(j:Int):=by omega
    have HE:Hid (Sd.thas T y=false):=by
     show _=_
     cases hq:Sd.thas T y with
     | false=>rfl
     | true=>obtain⟨h1,_⟩:=(Sd.thas_at hT y).1 hq;rw[uh HL] at h1;omega
    go_wp2
    exact bodyPost_ret (v := .tuple #[.int .i64 j,.bool false]) (by simp[results,Tryz.results328,go_sem]) rfl ⟨by rw[uh HL,uh HE],hb⟩
end Go.Proofs.YteflnddphpjahaaGreatDoor.Dk
namespace Go.Proofs.YteflnddphpjahaaGreatDoor
open Go.RowKit
theorem run_copy_rowK {P:Program} (w:World) (dT sT ty elem:TypeId) (sz g o dLen dCap:Nat) (a:Addr) (sLen sCap:Nat) (cur:Array Value) (t:TypeId) (cs:List Value)
  (hu:P.underlying dT=some (.slice elem)) (hs:(P.info? elem).map (·.size)=some sz)
  (hg:w.heap[g]? = some (.cells cur t (0,0))) (k:Nat) (hk:Nat.min sLen dLen=k) (hn:cs.length=k * sz)
  (hsrc:∀ j v,cs[j]? = some v→w.cell? (a.add j)=some v) (hfit:o+cs.length≤cur.size) (h1:∀ v ∈ cs,v.oneCell'=true) :
  (Builtin.copy_ #[dT,sT] ty #[.slice (some ⟨g,o,none⟩) dLen dCap,.slice (some a) sLen sCap]).run P w =
   .ok (goInt k) (w.setRow g (cur.toList.take o++cs++cur.toList.drop (o+cs.length)).toArray):=by
 have hl:=run_loadCells_list (P:=P) w a cs hsrc
 have hst:=run_storeCells_at P g o t cs 0 cur w hg (by simpa using hfit) h1
 cases hq:P.info? elem with
 | none=>simp[hq] at hs
 | some i =>
  have hi:i.size=sz:=by simpa [hq] using hs
  simp[Builtin.copy_,run_underlying hu,Builtin.lenOf,Builtin.firstCells,sizeOf,typeInfo,hq,hi,hk,← hn,hl,hst]
section
variable {P:Program}
theorem run_append_keeps (w:World) (base:Nat) (t ty e:TypeId) (i:TypeInfo) (z:Value) (size bytes:Nat) (ht:P.underlying t=some (.slice e)) (hi:P.info? e=some i) (hz:i.zero=some z)
  (hsize:i.size=size) (hby:i.bytes=bytes) (hzs:z.cells.size=size) (hsz:0 < size)
  (v:Value) (n:Nat) (xs:List Value) (hown:w.ownsRow base e size v n xs)
  (a:Addr) (m c:Nat) (hm:0 < m) (news:List Value) (hl:news.length=m * size) (hnews:∀ j u,news[j]? = some u→w.cell? (a.add j)=some u) (h1:∀ u ∈ news,u.oneCell'=true)
  (h63:n+m≤maxLen) (hbytes:(n+m) * bytes≤140737488355328) (hbase:base≤w.heap.size) :
  ∃ v' w',(Builtin.append_ #[t,t] ty #[v,.slice (some a) m c]).run P w = .ok v' w'∧w'.ownsRow base e size v' (n+m) (xs++news)∧w.grownBy w' v.ownBlock ∧
   (v'.ownBlock=v.ownBlock∨v'.ownBlock=some w.heap.size) ∧
   (∀ (B':Nat) (u:Value) (n':Nat) (ys:List Value),n'≤n→u.ownBlock=v.ownBlock→w.ownsRow B' e size u n' ys→w'.ownsRow B' e size u n' ys):=by
 obtain⟨v',w',hr,ho,hg,_⟩:=run_append_own (P:=P) w base t ty e i z size bytes ht hi hz hsize hby hzs hsz v n xs hown a m c news hl hnews h1 h63 hbytes hbase
 refine⟨v',w',hr,ho,hg,?_⟩
 subst hsize
 subst hby
 rcases hown.2 with ⟨rfl,rfl⟩ | ⟨g,cap,cur,rfl,hbg,hgg,hnc,hcm,hcs,htake⟩
 ·have hx:xs=[]:=List.eq_nil_of_length_eq_zero (by simpa using hown.1)
  subst hx
  have hr2:=run_append_nil (P:=P) w t ty e i z ht hi hz a m c news hl hnews (by omega) (by simp only[maxLen] at h63;omega) (by have hb:=hbytes;simp only[Nat.zero_add] at hb;omega)
  rw[hr2] at hr
  injection hr with e1 e2
  subst e1 e2
  refine⟨.inr rfl,fun B' u n' ys hn' hu h=>obl h ?_⟩
  exact(Below.refl _ _).drew.alloc nlr _
 ·by_cases hroom:n+m≤cap
  ·have hfit:n * i.size+news.length≤cur.size:=by rw[hl,hcs,← Nat.add_mul];exact Nat.mul_le_mul_right _ hroom
   have hr2:=run_append_room (P:=P) w t ty e i ht hi g n cap cur hgg a m c news hl hnews h1 hroom hfit
   rw[hr2] at hr
   injection hr with e1 e2
   subst e1 e2
   refine⟨.inl rfl,fun B' u n' ys hn' hu h=>?_⟩
   obtain⟨k1,k2⟩:=h
   refine⟨k1,?_⟩
   rcases k2 with k2 | ⟨g',cap',cur',rfl,hB',hg',q1,q2,q3,q4⟩
   ·exact .inl k2
   ·have hgg':g'=g:=by simpa [Value.ownBlock] using hu
    subst hgg'
    rw[hgg] at hg'
    injection hg' with hg'
    injection hg' with hg'
    subst hg'
    have hle:n' * i.size≤n * i.size:=Nat.mul_le_mul_right _ hn'
    refine .inr ⟨g',cap',_,rfl,hB',setRow_heap w g' cur _ e _ hgg,q1,q2,?_,?_⟩
    ·simp only[List.size_toArray,List.length_append,List.length_take,List.length_drop,Array.length_toList]
     omega
    ·rw[← q4]
     simp only[List.append_assoc]
     rw[List.take_append_of_le_length (by simp;omega),List.take_take,Nat.min_eq_left hle]
  ·have holds:∀ j u,xs[j]? = some u→w.cell? ((⟨g,0,none⟩:Addr).add j)=some u:=hown.cells (g:=g) rfl
   have hr2:=run_append_grow (P:=P) w t ty e i z ht hi hz ⟨g,0,none⟩ n cap xs hown.1 holds a m c news hl hnews (by omega) (by simp only[maxLen] at h63;omega) (growslice_fits (by omega) hbytes)
   rw[hr2] at hr
   injection hr with e1 e2
   subst e1 e2
   refine⟨.inr rfl,fun B' u n' ys hn' hu h=>obl h ?_⟩
   exact(Below.refl _ _).drew.alloc nlr _
theorem wpList_append_keeps (w:World) {ops:Array Oper} {rest:List Oper} {o:Oper} {a:Act} {Q:Exit→Act→World→Prop} (hgd:o.guard=none) (s x:Operand) (t:TypeId)
  (ho:o.op = .call { callee := .builtin .append,args := #[s,x],argTypes := #[t,t] })
  (base:Nat) (e:TypeId) (i:TypeInfo) (z:Value) (size bytes:Nat) (ht:P.underlying t=some (.slice e)) (hi:P.info? e=some i) (hz:i.zero=some z)
  (hsize:i.size=size) (hby:i.bytes=bytes) (hzs:z.cells.size=size) (hsz:0 < size)
  (v:Value) (n:Nat) (xs:List Value) (hs:a.eval s=v) (hown:w.ownsRow base e size v n xs)
  (ad:Addr) (m c:Nat) (hm:0 < m) (news:List Value) (hx:a.eval x = .slice (some ad) m c) (hl:news.length=m * size) (hnews:∀ j u,news[j]? = some u→w.cell? (ad.add j)=some u) (h1:∀ u ∈ news,u.oneCell'=true)
  (h63:n+m≤maxLen) (hbytes:(n+m) * bytes≤140737488355328) (hbase:base≤w.heap.size)
  (h:∀ v' w',w'.ownsRow base e size v' (n+m) (xs++news)→w.grownBy w' v.ownBlock→(v'.ownBlock=v.ownBlock∨v'.ownBlock=some w.heap.size) →
    (∀ (B':Nat) (u:Value) (n':Nat) (ys:List Value),n'≤n→u.ownBlock=v.ownBlock→w.ownsRow B' e size u n' ys→w'.ownsRow B' e size u n' ys)→wpList P ops Q rest (a.put o.dst v') w'):wpList P ops Q (o :: rest) a w :=
 wpList_plain hgd fun _ hK=>by
  obtain⟨v',w',hr,h2,h3,h4,h5⟩:=run_append_keeps (P:=P) w base t o.type e i z size bytes ht hi hz hsize hby hzs hsz v n xs hown ad m c hm news hl hnews h1 h63 hbytes hbase
  unfold Oper.wp execOp
  simp only[ho,resolve,invoke,builtin,Sem.run_bind,Sem.run_pure,Result.andThen_ok,List.map_toArray,List.map_cons,List.map_nil,hs,hx,hr]
  exact hK _ _ (h v' w' h2 h3 h4 h5)
end
end Go.Proofs.YteflnddphpjahaaGreatDoor
namespace Go.Proofs.YteflnddphpjahaaGreatDoor.Dk
open Go.RowKit
def tbCells (T:Sd.Tb):List Value:=T.flatMap fun p=>[.string p.1,fptr p.2]
theorem tb_len (T:Sd.Tb):(tbCells T).length=T.length * 2:=by
 induction T with
 | nil=>rfl
 | cons p t ih=>simp[tbCells] at ih ⊢;omega
theorem tb_append (A B:Sd.Tb):tbCells (A++B)=tbCells A++tbCells B:=by simp[tbCells]
theorem tb_get (T:Sd.Tb):∀ j (h:j < T.length),(tbCells T)[j * 2]? = some (.string (T[j]).1)∧(tbCells T)[j * 2+1]? = some (fptr (T[j]).2):=by
 induction T with
 | nil=>intro j h;simp at h
 | cons p t ih =>
  intro j h
  have e:tbCells (p :: t) = .string p.1 :: fptr p.2 :: tbCells t:=by simp[tbCells]
  rw[e]
  cases j with
  | zero=>simp
  | succ j =>
   have:=ih j (by simpa using h)
   rw[show (j+1) * 2=j * 2+1+1 by omega]
   simpa using this
theorem tb_one (T:Sd.Tb):∀ u ∈ tbCells T,u.oneCell'=true:=by
 intro u hu
 obtain⟨p,_,hp⟩:=List.mem_flatMap.1 hu
 simp at hp
 rcases hp with rfl | rfl <;> rfl
theorem ents_of_own {w:World} {B:Nat} {v:Value} {T:Sd.Tb} (h:w.ownsRow B 419 2 v T.length (tbCells T)):∃ p cap,v = .slice p T.length cap∧EntsAt w p T:=by
 have h':=h
 rcases h.2 with ⟨hv,hn⟩ | ⟨g,cap,cur,hv,_⟩
 ·subst hv
  refine⟨none,0,by rw[hn],fun j hj=>by omega⟩
 ·subst hv
  refine⟨some ⟨g,0,none⟩,cap,rfl,fun j hj=>⟨g,rfl,?_,?_⟩⟩
  ·rw[h'.cellAt _ (by omega)];exact(tb_get T j hj).1
  ·rw[h'.cellAt _ (by omega)];exact(tb_get T j hj).2
theorem osl {w:World} {B e size n:Nat} {v:Value} {xs:List Value} (h:w.ownsRow B e size v n xs):∃ p cap,v = .slice p n cap∧n≤cap:=by
 rcases h.2 with ⟨rfl,hn⟩ | ⟨g,cap,cur,rfl,_,_,hn,_⟩
 ·exact⟨none,0,by rw[hn],by omega⟩
 ·exact⟨_,cap,rfl,hn⟩
theorem Tryz.info_entry:(Tryz.prog.info? 419).map (fun i=>(i.zero,i.size,i.bytes))=some (some (.agg #[.string ⟨#[]⟩,.pointer none]),2,24):=by kernel_rfl
section
variable {α : Type}
def ovr (L:List α) (o:Nat) (c:List α):List α:=L.take o++c++L.drop (o+c.length)
theorem ovr_len (L:List α) (o:Nat) (c:List α) (h:o+c.length≤L.length):(ovr L o c).length=L.length:=by simp[ovr];omega
theorem ovr_room (L:List α) (o:Nat) (V D:List α) (n:Nat) (h1:o+V.length+D.length≤L.length) :
  (ovr (ovr L (o+V.length) D) o V).take (o+V.length+D.length)=L.take o++V++D:=by
 have e1:(ovr L (o+V.length) D).take o=L.take o:=by
  unfold ovr
  rw[List.append_assoc,List.take_append_of_le_length (by simp;omega),List.take_take,Nat.min_eq_left (by omega)]
 have e2:(ovr L (o+V.length) D).drop (o+V.length)=D++L.drop (o+V.length+D.length):=by
  unfold ovr
  rw[List.append_assoc,List.drop_append_of_le_length (by simp;omega),List.drop_of_length_le (by simp;omega),List.nil_append]
 show (List.take o _++V++List.drop (o+V.length) _).take _=_
 rw[e1,e2,← List.append_assoc,List.take_append_of_le_length (by simp;omega),List.take_of_length_le (by simp;omega)]
theorem ovr_grow (L:List α) (o:Nat) (V D:List α) (h1:o+V.length+D.length≤L.length) :
  (ovr (ovr L o V) (o+V.length) D).take (o+V.length+D.length)=L.take o++V++D:=by
 have e1:(ovr L o V).take (o+V.length)=L.take o++V:=by
  unfold ovr
  rw[List.take_append_of_le_length (by simp;omega),List.take_of_length_le (by simp;omega)]
 show (List.take _ _++D++List.drop _ _).take _=_
 rw[e1,List.take_append_of_le_length (by simp;omega),List.take_of_length_le (by simp;omega)]
end
theorem tb_take (T:Sd.Tb) (i:Nat):(tbCells T).take (i * 2)=tbCells (T.take i):=by
 induction T generalizing i with
 | nil=>simp[tbCells]
 | cons p t ih =>
  cases i with
  | zero=>simp[tbCells]
  | succ i =>
   have e:tbCells (p :: t) = .string p.1 :: fptr p.2 :: tbCells t:=by simp[tbCells]
   rw[e,show (i+1) * 2=i * 2+1+1 by omega,List.take_succ_cons,List.take_succ_cons,ih]
   simp[tbCells]
theorem tb_drop (T:Sd.Tb) (i:Nat):(tbCells T).drop (i * 2)=tbCells (T.drop i):=by
 induction T generalizing i with
 | nil=>simp[tbCells]
 | cons p t ih =>
  cases i with
  | zero=>simp
  | succ i =>
   have e:tbCells (p :: t) = .string p.1 :: fptr p.2 :: tbCells t:=by simp[tbCells]
   rw[e,show (i+1) * 2=i * 2+1+1 by omega,List.drop_succ_cons,List.drop_succ_cons,ih]
   simp
theorem tb_ins (T:Sd.Tb) (i:Nat) (a:ByteArray) (b:Nat):(tbCells T).take (i * 2)++[.string a,fptr b]++(tbCells T).drop (i * 2)=tbCells (T.take i++(a,b) :: T.drop i):=by
 rw[tb_take,tb_drop,tb_append]
 simp[tbCells]
def InsPost (w:World) (B:Nat) (v:Value) (T:Sd.Tb) (i:Nat) (a:ByteArray) (b:Nat) (e:Ending) (w':World):Prop :=
 ∃ v',e = .returned v'∧w'.ownsRow B 419 2 v' (T.length+1) (tbCells (T.take i++(a,b) :: T.drop i))∧w.grownBy w' v.ownBlock∧(v'.ownBlock=v.ownBlock∨v'.ownBlock=some w.heap.size)
theorem insert_end (B x:Nat) (v:Value) (T:Sd.Tb) (a:ByteArray) (b:Nat) (w:World) (hB:B≤w.heap.size) (h:w.ownsRow B 419 2 v T.length (tbCells T)) (hl:T.length≤100000)
  (hx:w.heap[x]? = some (.cells #[.string a,fptr b] 419 (0,0))) :
  Calls Tryz.prog 355 #[v,.int .i64 T.length,.slice (some ⟨x,0,none⟩) 1 1] w (InsPost w B v T T.length a b):=by
 obtain⟨i0,hi,hz0,hz1,hz2⟩:=info_parts Tryz.info_entry
 obtain⟨p,cap,rfl,hcp⟩:=osl h
 have hcap:T.length≤cap:=hcp
 have hcm:cap≤9223372036854775807:=by
  rcases h.2 with ⟨hv,hn⟩ | ⟨g,cap',cur,hv,_,_,hn,hm,_⟩
  ·injection hv with _ _ hv;omega
  ·injection hv with _ _ hv;unfold maxLen at hm;omega
 clear hcp
 have x0:w.cell? ⟨x,0,none⟩=some (.string a):=by rw[cell_of_row w x 0 _ _ _ hx];rfl
 have x1:w.cell? ⟨x,1,none⟩=some (fptr b):=by rw[cell_of_row w x 1 _ _ _ hx];rfl
 by_cases hce:cap=T.length
 ·subst hce
  go_enter Tryz.func355,Tryz.ntmps355
  go_wp2_with (first
   | (at_builtin;go_must (refine wpList_append_keeps _ rfl (.tmp 23) (.tmp 24) 265 rfl B 419 i0 _ 2 24 Tryz.underlying265 hi hz0 hz1 hz2 rfl (by decide) _ _ _ rfl h ⟨x,0,none⟩ 1 1 (by decide) [.string a,fptr b] rfl rfl ?c1 ?c2 ?c3 ?c4 ?c5 ?_))
   | go_in)
  case c1 =>
   intro j u hj
   match j,hj with
   | 0,hj=>simp at hj;subst hj;simpa [Addr.add] using x0
   | 1,hj=>simp at hj;subst hj;simpa [Addr.add] using x1
  case c2=>intro u hu;simp at hu;rcases hu with rfl | rfl <;> rfl
  case c3=>unfold maxLen;omega
  case c4=>omega
  case c5=>exact hB
  intro v3 w3 h3 hg3 hn3 _
  go_wp2
  go_ret
  refine⟨v3,rfl,?_,hg3,hn3⟩
  have e:tbCells (T.take T.length++(a,b) :: T.drop T.length)=tbCells T++[.string a,fptr b]:=by simp[tbCells]
  rw[e];exact h3
 ·have hci:T.length < cap:=by omega
  go_enter Tryz.func355,Tryz.ntmps355
  go_wp2_with (first
   | (at_builtin;go_must (refine wpList_append_keeps _ rfl (.tmp 23) (.tmp 24) 265 rfl B 419 i0 _ 2 24 Tryz.underlying265 hi hz0 hz1 hz2 rfl (by decide) _ _ _ rfl h ⟨x,0,none⟩ 1 1 (by decide) [.string a,fptr b] rfl rfl ?c1 ?c2 ?c3 ?c4 ?c5 ?_))
   | go_in)
  case c1 =>
   intro j u hj
   match j,hj with
   | 0,hj=>simp at hj;subst hj;simpa [Addr.add] using x0
   | 1,hj=>simp at hj;subst hj;simpa [Addr.add] using x1
  case c2=>intro u hu;simp at hu;rcases hu with rfl | rfl <;> rfl
  case c3=>unfold maxLen;omega
  case c4=>omega
  case c5=>exact hB
  intro v3 w3 h3 hg3 hn3 _
  go_wp2
  go_ret
  refine⟨v3,rfl,?_,hg3,hn3⟩
  have e:tbCells (T.take T.length++(a,b) :: T.drop T.length)=tbCells T++[.string a,fptr b]:=by simp[tbCells]
  rw[e];exact h3
end Go.Proofs.YteflnddphpjahaaGreatDoor.Dk
