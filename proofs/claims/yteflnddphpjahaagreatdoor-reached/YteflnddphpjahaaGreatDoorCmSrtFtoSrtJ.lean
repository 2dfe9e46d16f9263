import Derived.Test.YteflnddphpjahaaGreatDoorCmRxAtoPlQ
import Derived.BigRegion
import Derived.BigQuiet
import Derived.Deep.RegionHeld3
set_option linter.unusedVariables false
set_option linter.unusedSimpArgs false
set_option maxRecDepth 100000
set_option maxHeartbeats 16000000
namespace Go.Proofs.YteflnddphpjahaaGreatDoor
def St (X Y:List Sp.Ed):Prop:=Y.length=X.length∧∀ a b,Y.filter (Sp.isKey a b)=X.filter (Sp.isKey a b)
theorem St.refl (X:List Sp.Ed):St X X:=⟨rfl,fun _ _=>rfl⟩
theorem St.trans {X Y Z:List Sp.Ed} (h:St X Y) (k:St Y Z):St X Z:=⟨k.1.trans h.1,fun a b=>(k.2 a b).trans (h.2 a b)⟩
def ltE (x y:Sp.Ed):Prop:=x.frm < y.frm∨(x.frm=y.frm∧x.to < y.to)
theorem ltE_iff (x y:Sp.Ed):cmpE x y < 0↔ltE x y:=cmpE_neg x y
theorem lexle_of_not {x y:Sp.Ed} (h:¬ ltE x y):Sp.lexle y x:=by unfold ltE at h;unfold Sp.lexle;omega
theorem lexle_of_lt {x y:Sp.Ed} (h:ltE x y):Sp.lexle x y:=by unfold ltE at h;unfold Sp.lexle;omega
theorem lexle_trans {x y z:Sp.Ed} (h:Sp.lexle x y) (k:Sp.lexle y z):Sp.lexle x z:=by unfold Sp.lexle at *;omega
theorem lexle_refl (x:Sp.Ed):Sp.lexle x x:=by unfold Sp.lexle;omega
theorem key_apart {x y:Sp.Ed} (h:ltE x y) (a b:Nat):¬ (Sp.isKey a b x=true∧Sp.isKey a b y=true):=by
 rintro⟨h1,h2⟩
 simp[Sp.isKey] at h1 h2
 unfold ltE at h;omega
theorem St_rot (A U V B:List Sp.Ed) (h:∀ u ∈ U,∀ v ∈ V,ltE v u):St (A++(U++(V++B))) (A++(V++(U++B))):=by
 refine⟨by simp;omega,fun a b=>?_⟩
 simp only[List.filter_append]
 have:U.filter (Sp.isKey a b)=[]∨V.filter (Sp.isKey a b)=[]:=by
  apply Decidable.byContradiction
  intro hn
  have h1:U.filter (Sp.isKey a b)≠[]:=fun e=>hn (Or.inl e)
  have h2:V.filter (Sp.isKey a b)≠[]:=fun e=>hn (Or.inr e)
  obtain⟨u,hu⟩:=List.exists_mem_of_ne_nil _ h1
  obtain⟨v,hv⟩:=List.exists_mem_of_ne_nil _ h2
  obtain⟨u1,u2⟩:=List.mem_filter.1 hu
  obtain⟨v1,v2⟩:=List.mem_filter.1 hv
  exact key_apart (h u u1 v v1) a b ⟨v2,u2⟩
 rcases this with e | e <;> rw[e] <;> simp
theorem sw_adj (A B:List Sp.Ed) (x y:Sp.Ed):sw (A++(x :: y :: B)) (A.length+1) A.length=A++(y :: x :: B):=by
 apply List.ext_getElem?
 intro t
 rw[sw_get _ _ _ (by simp) (by simp)]
 by_cases c1:t=A.length
 ·subst c1;simp
 ·rw[if_neg c1]
  by_cases c2:t=A.length+1
  ·subst c2;simp
  ·rw[if_neg c2]
   by_cases c3:t < A.length
   ·rw[List.getElem?_append_left c3,List.getElem?_append_left c3]
   ·rw[List.getElem?_append_right (by omega),List.getElem?_append_right (by omega)]
    obtain⟨k,hk⟩:∃ k,t - A.length=k+2:=⟨t - A.length - 2,by omega⟩
    rw[hk];rfl
theorem cut2 (X:List Sp.Ed) (j:Nat) (hj:j+1 < X.length):X=X.take j++(X[j] :: X[j+1] :: X.drop (j+2)):=by
 rw[← List.drop_eq_getElem_cons hj,← List.drop_eq_getElem_cons (by omega),List.take_append_drop]
theorem St_sw (X:List Sp.Ed) (j:Nat) (hj:j+1 < X.length) (h:ltE X[j+1] X[j]):St X (sw X (j+1) j):=by
 have e:=cut2 X j hj
 have hl:(X.take j).length=j:=by simp;omega
 have e2:=sw_adj (X.take j) (X.drop (j+2)) X[j] X[j+1]
 rw[hl,← e] at e2
 rw[e2]
 have:=St_rot (X.take j) [X[j]] [X[j+1]] (X.drop (j+2)) (by simpa using h)
 simp only[List.cons_append,List.nil_append] at this
 rw[← e] at this
 exact this
def Ord (X:List Sp.Ed) (a b:Nat):Prop := ∀ s t x y,a≤s→s < t→t < b→X[s]? = some x→X[t]? = some y→Sp.lexle x y
def OrdBut (X:List Sp.Ed) (a b j:Nat):Prop := ∀ s t x y,a≤s→s < t→t < b→t≠j→X[s]? = some x→X[t]? = some y→Sp.lexle x y
theorem ord_but {X:List Sp.Ed} {a i:Nat} (h:Ord X a i):OrdBut X a (i+1) i:=fun s t x y h1 h2 h3 h4=>h s t x y h1 h2 (by omega)
theorem but_ord {X:List Sp.Ed} {a b j:Nat} (h:OrdBut X a b j) (he:j≤a∨∃ p,p+1=j∧∃ x y,X[p]? = some x∧X[j]? = some y∧¬ ltE y x):Ord X a b:=by
 intro s t x y h1 h2 h3 hx hy
 by_cases ht:t=j
 ·rcases he with he | ⟨p,hp,x',y',hx',hy',hn⟩
  ·omega
  ·subst ht
   rw[hy] at hy'
   injection hy' with hy'
   subst hy'
   by_cases hs:s=p
   ·subst hs
    rw[hx] at hx'
    injection hx' with hx'
    subst hx'
    exact lexle_of_not hn
   ·exact lexle_trans (h s p x x' h1 (by omega) (by omega) (by omega) hx hx') (lexle_of_not hn)
 ·exact h s t x y h1 h2 h3 ht hx hy
theorem but_step {X:List Sp.Ed} {a b j:Nat} (h:OrdBut X a b (j+1)) (haj:a≤j) (hjb:j+1 < b) (hj:j+1 < X.length) (hlt:ltE X[j+1] X[j]):OrdBut (sw X (j+1) j) a b j:=by
 intro s t x y h1 h2 h3 h4 hx hy
 rw[sw_get _ _ _ hj (by omega)] at hx hy
 rw[if_neg h4] at hy
 have g1:X[j+1]? = some X[j+1]:=List.getElem?_eq_getElem hj
 have g0:X[j]? = some X[j]:=List.getElem?_eq_getElem (by omega)
 by_cases t1:t=j+1
 ·rw[if_pos t1,g0] at hy
  injection hy with hy
  subst hy
  by_cases s0:s=j
  ·rw[if_pos s0,g1] at hx
   injection hx with hx
   subst hx
   exact lexle_of_lt hlt
  ·rw[if_neg s0,if_neg (by omega)] at hx
   exact h s j _ _ h1 (by omega) (by omega) (by omega) hx g0
 ·rw[if_neg t1] at hy
  by_cases s0:s=j
  ·rw[if_pos s0,g1] at hx
   injection hx with hx
   subst hx
   exact h (j+1) t _ _ (by omega) (by omega) h3 t1 g1 hy
  ·rw[if_neg s0] at hx
   by_cases s1:s=j+1
   ·rw[if_pos s1,g0] at hx
    injection hx with hx
    subst hx
    exact h j t _ _ haj (by omega) h3 t1 g0 hy
   ·rw[if_neg s1] at hx
    exact h s t _ _ h1 h2 h3 t1 hx hy
open Go.RowKit
def SrtPost (g cap B N a b:Nat) (X:List Sp.Ed) (w:World) (e:Ending) (w':World):Prop :=
 e = .returned (.tuple #[])∧∃ Y,w'.ownsRow B 67 3 (.slice (some ⟨g,0,none⟩) N cap) N (edCells Y)∧w.grownBy w' (some g)∧St X Y∧Ord Y a b∧∀ t,t < a∨b≤t→Y[t]? = X[t]?
theorem insertion_any (g cap B a b N:Nat) (X:List Sp.Ed) (w:World) (hX:X.length=N) (h:w.ownsRow B 67 3 (.slice (some ⟨g,0,none⟩) N cap) N (edCells X)) (hab:a≤b) (hb:b≤N) (hl:N≤5000) :
  Calls Tryz.prog 251 #[.slice (some ⟨g,0,none⟩) N cap,.int .i64 a,.int .i64 b,.func (.func 118) #[] #[]] w (SrtPost g cap B N a b X w):=by
 have HX:=hde hX
 clear hX
 go_enter Tryz.func251,Tryz.ntmps251
 go_wp2
 go_loopw [8] (fun u wr=>∃ (i:Nat) (Y:List Sp.Ed),u = .int .i64 i∧a < i∧(i≤b∨i=a+1)∧wr.ownsRow B 67 3 (.slice (some ⟨g,0,none⟩) N cap) N (edCells Y)∧w.grownBy wr (some g)∧Hid (Y.length=N)∧Hid (St X Y)∧Hid (Ord Y a i)∧Hid (∀ t,t < a∨b≤t→Y[t]? = X[t]?)) (fun u _=>b+1 - (intOf u).toNat)
 case atStart=>exact⟨a+1,X,by go_num,by omega,Or.inr rfl,h,grown_refl _ _,HX,St.refl _,fun s t x y h1 h2 h3=>by omega,fun t _=>rfl⟩
 case round =>
  obtain⟨i,Y,rfl,hai,hib,ho,hgr,HY,HST,HOR,HOUT⟩:=hrel
  by_cases hlt:i < b
  ·have hltz:(i:Int) < (b:Int):=by omega
   go_wp2
   go_loopw [9] (fun u wr2=>∃ (j:Nat) (Z:List Sp.Ed),u = .int .i64 j∧a≤j∧j≤i∧wr2.ownsRow B 67 3 (.slice (some ⟨g,0,none⟩) N cap) N (edCells Z)∧w.grownBy wr2 (some g)∧Hid (Z.length=N)∧Hid (St X Z)∧Hid (OrdBut Z a (i+1) j)∧Hid (∀ t,t < a∨b≤t→Z[t]? = X[t]?)) (fun u _=>(intOf u).toNat)
   case atStart=>exact⟨i,Y,rfl,by omega,Nat.le_refl _,ho,hgr,HY,HST,ord_but (uh HOR),HOUT⟩
   case round =>
    obtain⟨j,Z,rfl,haj,hji,ho2,hgr2,HZ,HST2,HOR2,HOUT2⟩:=hrel
    clear ho hgr
    by_cases hja:a < j
    ·obtain⟨q,HQ⟩:∃ q,Hid (j=q+1):=⟨j - 1,by show _=_;omega⟩
     have hqj:q < j:=by have:=uh HQ;omega
     have haq:a≤q:=by have:=uh HQ;omega
     have hjN:j < N:=by omega
     have hjaz:(a:Int) < (j:Int):=by omega
     have hq1:(j:Int) < (N:Int):=by omega
     have hq0:(q:Int) < (N:Int):=by omega
     have p0:(0:Int)≤(j:Int):=by omega
     have p1:(0:Int)≤(q:Int):=by omega
     have hw2:IntKind.i64.wrap ((j:Int) - 1)=(q:Int):=by have:=uh HQ;rw[IntKind.wrap_i64];omega
     obtain⟨x1,x0,⟨c0,c1,c2⟩,⟨d0,d1,d2⟩,_,HXX⟩:=own_sw (uh HZ) ho2 j q (by omega) (by omega)
     obtain⟨c,hc⟩:∃ c,cmpE x1 x0=c:=⟨_,rfl⟩
     have HC:=hde hc
     have HLT:=hde (ltE_iff x1 x0)
     rw[hc] at HLT
     clear hc
     have hgz:g < wr.heap.size:=World.block_lt_of_cell? _ _ c0
     by_cases hneg:c < 0
     ·go_wp2_with fail
      go_region_held3 (fun w'=>(w'.cell? ⟨g,j * 3,none⟩=some (.int .i64 (x1.frm:Int))∧w'.cell? ⟨g,j * 3+1,none⟩=some (.int .i64 (x1.to:Int))∧w'.cell? ⟨g,j * 3+2,none⟩=some (.int .i64 x1.n))∧(w'.cell? ⟨g,q * 3,none⟩=some (.int .i64 (x0.frm:Int))∧w'.cell? ⟨g,q * 3+1,none⟩=some (.int .i64 (x0.to:Int))∧w'.cell? ⟨g,q * 3+2,none⟩=some (.int .i64 x0.n)))
       (first | (go_keep;done) | (exact⟨⟨(hb2.cell (p:=⟨g,_,none⟩) hgz).trans c0,(hb2.cell (p:=⟨g,_,none⟩) hgz).trans c1,(hb2.cell (p:=⟨g,_,none⟩) hgz).trans c2⟩,⟨(hb2.cell (p:=⟨g,_,none⟩) hgz).trans d0,(hb2.cell (p:=⟨g,_,none⟩) hgz).trans d1,(hb2.cell (p:=⟨g,_,none⟩) hgz).trans d2⟩⟩))
       (first | (go_at_call 118;refine(edgeCmp_any x1 x0 _).mono ?_;rintro e w2 ⟨rfl,hb2⟩;rw[uh HC]))
      have hb3:Below wr.heap.size wr w2:=(Below.refl _ _).drew.trans hb2
      have ho3:=obl ho2 hb3
      have f0:=own_frozen ho3 (j * 3)
      have f1:=own_frozen ho3 (j * 3+1)
      have f2:=own_frozen ho3 (j * 3+2)
      have f3:=own_frozen ho3 (q * 3)
      have f4:=own_frozen ho3 (q * 3+1)
      have f5:=own_frozen ho3 (q * 3+2)
      obtain⟨z1,z0,⟨r0,r1,r2⟩,⟨s0,s1,s2⟩,HO,HZZ⟩:=own_sw (uh HZ) ho3 j q (by omega) (by omega)
      have HG3:=hde (grown_trans hgr2 (grown_below hb3))
      obtain rfl:z1=x1:=by have h1:=(uh HXX).1;rw[(uh HZZ).1] at h1;injection h1
      obtain rfl:z0=x0:=by have h1:=(uh HXX).2;rw[(uh HZZ).2] at h1;injection h1
      have HL:Hid (ltE z1 z0):=(uh HLT).1 hneg
      clear hb2 hb3 ho2 ho3 c0 c1 c2 d0 d1 d2 hgr2
      go_wp2_with fail
      go_region
      go_wp2
      go_roundw
      case rel =>
       have hjq:=uh HQ
       subst hjq
       have hq:q+1 < Z.length:=by rw[uh HZ];omega
       have e1:Z[q+1]=z1:=by have:=(uh HZZ).1;rw[List.getElem?_eq_getElem hq] at this;injection this
       have e2:Z[q]=z0:=by have:=(uh HZZ).2;rw[List.getElem?_eq_getElem (by omega)] at this;injection this
       refine⟨q,sw Z (q+1) q,by go_num,by omega,by omega,(uh HO).1,grown_trans (uh HG3) (uh HO).2,by show _=_;rw[sw_len];exact uh HZ,(uh HST2).trans (St_sw Z q hq (by rw[e1,e2];exact uh HL)),but_step (uh HOR2) (by omega) (by omega) hq (by rw[e1,e2];exact uh HL),?_⟩
       intro t ht
       rw[sw_get _ _ _ hq (by omega),if_neg (by omega),if_neg (by omega)]
       exact(uh HOUT2) t ht
      case measure=>have:=uh HQ;simp[intOf];omega
     ·go_wp2_with fail
      go_region_held3 (fun w'=>(w'.cell? ⟨g,j * 3,none⟩=some (.int .i64 (x1.frm:Int))∧w'.cell? ⟨g,j * 3+1,none⟩=some (.int .i64 (x1.to:Int))∧w'.cell? ⟨g,j * 3+2,none⟩=some (.int .i64 x1.n))∧(w'.cell? ⟨g,q * 3,none⟩=some (.int .i64 (x0.frm:Int))∧w'.cell? ⟨g,q * 3+1,none⟩=some (.int .i64 (x0.to:Int))∧w'.cell? ⟨g,q * 3+2,none⟩=some (.int .i64 x0.n)))
       (first | (go_keep;done) | (exact⟨⟨(hb2.cell (p:=⟨g,_,none⟩) hgz).trans c0,(hb2.cell (p:=⟨g,_,none⟩) hgz).trans c1,(hb2.cell (p:=⟨g,_,none⟩) hgz).trans c2⟩,⟨(hb2.cell (p:=⟨g,_,none⟩) hgz).trans d0,(hb2.cell (p:=⟨g,_,none⟩) hgz).trans d1,(hb2.cell (p:=⟨g,_,none⟩) hgz).trans d2⟩⟩))
       (first | (go_at_call 118;refine(edgeCmp_any x1 x0 _).mono ?_;rintro e w2 ⟨rfl,hb2⟩;rw[uh HC]))
      have hb3:Below wr.heap.size wr w2:=(Below.refl _ _).drew.trans hb2
      go_wp2
      go_roundw
      case rel=>exact⟨i+1,Z,by go_num,by omega,by omega,obl ho2 hb3,grown_trans hgr2 (grown_below hb3),HZ,HST2,but_ord (uh HOR2) (Or.inr ⟨q,(uh HQ).symm,x0,x1,(uh HXX).2,(uh HXX).1,fun hq=>(Int.not_lt.2 hneg) ((uh HLT).2 hq)⟩),HOUT2⟩
      case measure=>simp[intOf];omega
    ·have hjaz:¬ (a:Int) < (j:Int):=by omega
     have hjd:decide ((a:Int) < (j:Int))=false:=decide_eq_false hjaz
     go_wp2_with fail
     go_quiet (fail)
     go_wp2
     go_roundw
     case rel=>exact⟨i+1,Z,by go_num,by omega,by omega,obl ho2 (below_drewN _ _),grown_trans hgr2 (grown_below (below_drewN _ _)),HZ,HST2,but_ord (uh HOR2) (Or.inl (by omega)),HOUT2⟩
     case measure=>simp[intOf];omega
  ·go_wp2
   go_end0
   exact⟨rfl,Y,ho,hgr,uh HST,fun s t x y h1 h2 h3=>(uh HOR) s t x y h1 h2 (by omega),uh HOUT⟩
def Out (X Y:List Sp.Ed) (a b:Nat):Prop := ∀ t,t < a∨b≤t→Y[t]? = X[t]?
def Win (X Y:List Sp.Ed) (a b:Nat):Prop := ∀ t z,a≤t→t < b→Y[t]? = some z→∃ s,a≤s∧s < b∧X[s]? = some z
def Mrg (X Y:List Sp.Ed) (a b:Nat):Prop:=St X Y∧Ord Y a b∧Out X Y a b∧Win X Y a b
theorem Win.refl (X:List Sp.Ed) (a b:Nat):Win X X a b:=fun t z h1 h2 h3=>⟨t,h1,h2,h3⟩
theorem Mrg.refl {X:List Sp.Ed} {a b:Nat} (h:Ord X a b):Mrg X X a b:=⟨St.refl _,h,fun _ _=>rfl,Win.refl _ _ _⟩
theorem ltE_of_lexle_lt {x y z:Sp.Ed} (h:Sp.lexle x y) (k:ltE y z):ltE x z:=by unfold Sp.lexle at h;unfold ltE at *;omega
theorem ltE_of_lt_lexle {x y z:Sp.Ed} (h:ltE x y) (k:Sp.lexle y z):ltE x z:=by unfold Sp.lexle at k;unfold ltE at *;omega
theorem ord_le {X:List Sp.Ed} {a b:Nat} (h:Ord X a b) {s t:Nat} {x y:Sp.Ed} (h1:a≤s) (h2:s≤t) (h3:t < b) (hx:X[s]? = some x) (hy:X[t]? = some y):Sp.lexle x y:=by
 rcases Nat.lt_or_eq_of_le h2 with h2 | h2
 ·exact h s t x y h1 h2 h3 hx hy
 ·subst h2;rw[hx] at hy;injection hy with hy;subst hy;exact lexle_refl _
def Dn (X Y:List Sp.Ed) (a k:Nat):Prop:=St X Y∧Y[k]? = X[a]?∧(∀ t,a≤t→t < k→Y[t]? = X[t+1]?)∧(∀ t,t < a∨k < t→Y[t]? = X[t]?)
theorem Dn.refl (X:List Sp.Ed) (a:Nat):Dn X X a a:=⟨St.refl _,rfl,fun t h1 h2=>by omega,fun _ _=>rfl⟩
theorem Dn.step {X Y:List Sp.Ed} {a k:Nat} (h:Dn X Y a k) (hak:a≤k) (hk:k+1 < X.length) (hlt:∀ x y,X[a]? = some x→X[k+1]? = some y→ltE y x):Dn X (sw Y k (k+1)) a (k+1):=by
 obtain⟨h1,h2,h3,h4⟩:=h
 have hY:Y.length=X.length:=h1.1
 have e1:Y[k]? = some Y[k]:=List.getElem?_eq_getElem (by omega)
 have e2:Y[k+1]? = some Y[k+1]:=List.getElem?_eq_getElem (by omega)
 have hl:ltE Y[k+1] Y[k]:=hlt _ _ (by rw[← h2,e1]) (by rw[← h4 (k+1) (by omega),e2])
 have hs:sw Y k (k+1)=sw Y (k+1) k:=by
  apply List.ext_getElem?
  intro t
  rw[sw_get _ _ _ (by omega) (by omega),sw_get _ _ _ (by omega) (by omega)]
  by_cases c1:t=k+1
  ·subst c1;rw[if_pos rfl,if_neg (by omega),if_pos rfl]
  ·rw[if_neg c1,if_neg c1]
 refine⟨by rw[hs];exact h1.trans (St_sw Y k (by omega) hl),?_,?_,?_⟩
 ·rw[sw_get _ _ _ (by omega) (by omega),if_pos rfl,h2]
 ·intro t ht1 ht2
  rw[sw_get _ _ _ (by omega) (by omega),if_neg (by omega)]
  by_cases c:t=k
  ·subst c;rw[if_pos rfl,h4 _ (by omega)]
  ·rw[if_neg c,h3 t ht1 (by omega)]
 ·intro t ht
  rw[sw_get _ _ _ (by omega) (by omega),if_neg (by omega),if_neg (by omega),h4 t (by omega)]
theorem Dn.close {X Y:List Sp.Ed} {a m b i:Nat} (hm:m=a+1) (hi:m≤i) (hib:i≤b) (hb:b≤X.length) (hO:Ord X m b) (hlo:∀ t x y,m≤t→t < i→X[a]? = some x→X[t]? = some y→ltE y x) (hhi:∀ t x y,i≤t→t < b→X[a]? = some x→X[t]? = some y→¬ ltE y x) (h:Dn X Y a (i - 1)):Mrg X Y a b:=by
 obtain⟨h1,h2,h3,h4⟩:=h
 refine⟨h1,?_,fun t ht=>h4 t (by omega),?_⟩
 ·intro s t x y hs hst htb hx hy
  by_cases c1:t < i - 1
  ·rw[h3 s hs (by omega)] at hx
   rw[h3 t (by omega) c1] at hy
   exact hO _ _ _ _ (by omega) (by omega) (by omega) hx hy
  ·by_cases c2:t=i - 1
   ·subst c2
    rw[h3 s hs hst] at hx
    rw[h2] at hy
    exact lexle_of_lt (hlo (s+1) y x (by omega) (by omega) hy hx)
   ·rw[h4 t (by omega)] at hy
    by_cases c3:s < i - 1
    ·rw[h3 s hs c3] at hx
     exact hO _ _ _ _ (by omega) (by omega) (by omega) hx hy
    ·by_cases c4:s=i - 1
     ·subst c4
      rw[h2] at hx
      exact lexle_of_not (hhi t x y (by omega) htb hx hy)
     ·rw[h4 s (by omega)] at hx
      exact hO _ _ _ _ (by omega) hst htb hx hy
 ·intro t z ht1 ht2 hz
  by_cases c1:t < i - 1
  ·rw[h3 t ht1 c1] at hz;exact⟨t+1,by omega,by omega,hz⟩
  ·by_cases c2:t=i - 1
   ·subst c2;rw[h2] at hz;exact⟨a,by omega,by omega,hz⟩
   ·rw[h4 t (by omega)] at hz;exact⟨t,ht1,ht2,hz⟩
def Up (X Y:List Sp.Ed) (k m:Nat):Prop:=St X Y∧Y[k]? = X[m]?∧(∀ t,k < t→t≤m→Y[t]? = X[t - 1]?)∧(∀ t,t < k∨m < t→Y[t]? = X[t]?)
theorem Up.refl (X:List Sp.Ed) (m:Nat):Up X X m m:=⟨St.refl _,rfl,fun t h1 h2=>by omega,fun _ _=>rfl⟩
theorem Up.step {X Y:List Sp.Ed} {k m:Nat} (h:Up X Y (k+1) m) (hkm:k+1≤m) (hk:m < X.length) (hlt:∀ x y,X[m]? = some x→X[k]? = some y→ltE x y):Up X (sw Y (k+1) k) k m:=by
 obtain⟨h1,h2,h3,h4⟩:=h
 have hY:Y.length=X.length:=h1.1
 have e1:Y[k]? = some Y[k]:=List.getElem?_eq_getElem (by omega)
 have e2:Y[k+1]? = some Y[k+1]:=List.getElem?_eq_getElem (by omega)
 have hl:ltE Y[k+1] Y[k]:=hlt _ _ (by rw[← h2,e2]) (by rw[← h4 k (by omega),e1])
 refine⟨h1.trans (St_sw Y k (by omega) hl),?_,?_,?_⟩
 ·rw[sw_get _ _ _ (by omega) (by omega),if_pos rfl,h2]
 ·intro t ht1 ht2
  rw[sw_get _ _ _ (by omega) (by omega),if_neg (by omega)]
  by_cases c:t=k+1
  ·subst c;rw[if_pos rfl,h4 _ (by omega)];rfl
  ·rw[if_neg c,h3 t (by omega) ht2]
 ·intro t ht
  rw[sw_get _ _ _ (by omega) (by omega),if_neg (by omega),if_neg (by omega),h4 t (by omega)]
theorem Up.close {X Y:List Sp.Ed} {a m b i:Nat} (hm:b=m+1) (hai:a≤i) (him:i≤m) (hb:b≤X.length) (hO:Ord X a m) (hlo:∀ t x y,a≤t→t < i→X[m]? = some x→X[t]? = some y→¬ ltE x y) (hhi:∀ t x y,i≤t→t < m→X[m]? = some x→X[t]? = some y→ltE x y) (h:Up X Y i m):Mrg X Y a b:=by
 obtain⟨h1,h2,h3,h4⟩:=h
 refine⟨h1,?_,fun t ht=>h4 t (by omega),?_⟩
 ·intro s t x y hs hst htb hx hy
  by_cases c1:s < i
  ·rw[h4 s (by omega)] at hx
   by_cases c2:t < i
   ·rw[h4 t (by omega)] at hy
    exact hO _ _ _ _ hs hst (by omega) hx hy
   ·by_cases c3:t=i
    ·subst c3
     rw[h2] at hy
     exact lexle_of_not (hlo s y x hs c1 hy hx)
    ·rw[h3 t (by omega) (by omega)] at hy
     exact ord_le hO hs (by omega) (by omega) hx hy
  ·by_cases c2:s=i
   ·subst c2
    rw[h2] at hx
    rw[h3 t (by omega) (by omega)] at hy
    exact lexle_of_lt (hhi _ x y (by omega) (by omega) hx hy)
   ·rw[h3 s (by omega) (by omega)] at hx
    rw[h3 t (by omega) (by omega)] at hy
    exact hO _ _ _ _ (by omega) (by omega) (by omega) hx hy
 ·intro t z ht1 ht2 hz
  by_cases c1:t < i
  ·rw[h4 t (by omega)] at hz;exact⟨t,ht1,ht2,hz⟩
  ·by_cases c2:t=i
   ·subst c2;rw[h2] at hz;exact⟨m,by omega,by omega,hz⟩
   ·rw[h3 t (by omega) (by omega)] at hz;exact⟨t - 1,by omega,by omega,hz⟩
theorem rot_get (X:List Sp.Ed) (a m b:Nat) (h1:a≤m) (h2:m≤b) (h3:b≤X.length) (t:Nat):(rot X a m b)[t]? = if a≤t∧t < a+(b - m) then X[t+(m - a)]? else if a+(b - m)≤t∧t < b then X[t - (b - m)]? else X[t]?:=by
 obtain⟨A,U,V,B,rfl,e1,e2,e3⟩:=rot_cut X a m b h1 h2 h3
 have e:=rot_split A U V B
 rw[show A.length+U.length=m by omega,e1,show m+V.length=b by omega] at e
 rw[e]
 by_cases c0:t < a
 ·rw[if_neg (by omega),if_neg (by omega),List.getElem?_append_left (by omega),List.getElem?_append_left (by omega)]
 ·by_cases c1:t < a+(b - m)
  ·rw[if_pos (by omega),List.getElem?_append_right (by omega),List.getElem?_append_left (by omega)]
   rw[List.getElem?_append_right (by omega),List.getElem?_append_right (by omega),List.getElem?_append_left (by omega)]
   congr 1;omega
  ·by_cases c2:t < b
   ·rw[if_neg (by omega),if_pos (by omega),List.getElem?_append_right (by omega),List.getElem?_append_right (by omega),List.getElem?_append_left (by omega)]
    rw[List.getElem?_append_right (by omega),List.getElem?_append_left (by omega)]
    congr 1;omega
   ·rw[if_neg (by omega),if_neg (by omega),List.getElem?_append_right (by omega),List.getElem?_append_right (by omega),List.getElem?_append_right (by omega)]
    rw[List.getElem?_append_right (by omega),List.getElem?_append_right (by omega),List.getElem?_append_right (by omega)]
    congr 1;omega
theorem rot_St {X:List Sp.Ed} {a m b:Nat} (h1:a≤m) (h2:m≤b) (h3:b≤X.length) (h:∀ s t x y,a≤s→s < m→m≤t→t < b→X[s]? = some x→X[t]? = some y→ltE y x):St X (rot X a m b):=by
 obtain⟨A,U,V,B,rfl,e1,e2,e3⟩:=rot_cut X a m b h1 h2 h3
 have e:=rot_split A U V B
 rw[show A.length+U.length=m by omega,e1,show m+V.length=b by omega] at e
 rw[e]
 refine St_rot A U V B ?_
 intro u hu v hv
 obtain⟨i,hi,rfl⟩:=List.getElem_of_mem hu
 obtain⟨j,hj,rfl⟩:=List.getElem_of_mem hv
 refine h (a+i) (m+j) _ _ (by omega) (by omega) (by omega) (by omega) ?_ ?_
 ·rw[List.getElem?_append_right (by omega),List.getElem?_append_left (by omega),show a+i - A.length=i by omega];exact List.getElem?_eq_getElem hi
 ·rw[List.getElem?_append_right (by omega),List.getElem?_append_right (by omega),List.getElem?_append_left (by omega),show m+j - A.length - U.length=j by omega];exact List.getElem?_eq_getElem hj
def Cut (X:List Sp.Ed) (p s0 r0 c:Nat):Prop:=s0≤c∧c≤r0∧(∀ x y,s0 < c→X[c - 1]? = some x→X[p - (c - 1)]? = some y→¬ ltE y x)∧(∀ x y,c < r0→X[c]? = some x→X[p - c]? = some y→ltE y x)
theorem merge_mid {X:List Sp.Ed} {a m b mid c s0 r0:Nat} (ham:a < m) (hmb:m < b) (hb:b≤X.length) (hmid:mid=(a+b) / 2)
  (hs0:s0=if mid < m then mid+m - b else a) (hr0:r0=if mid < m then mid else m)
  (hO1:Ord X a m) (hO2:Ord X m b) (hc:Cut X (mid+m - 1) s0 r0 c) :
  a≤c∧c≤m∧m≤mid+m - c∧mid+m - c≤b∧c≤mid∧mid≤mid+m - c∧St X (rot X c m (mid+m - c)) ∧
  Ord (rot X c m (mid+m - c)) a c∧Ord (rot X c m (mid+m - c)) c mid∧Ord (rot X c m (mid+m - c)) mid (mid+m - c)∧Ord (rot X c m (mid+m - c)) (mid+m - c) b ∧
  (∀ s t x y,a≤s→s < mid→mid≤t→t < b→(rot X c m (mid+m - c))[s]? = some x→(rot X c m (mid+m - c))[t]? = some y→Sp.lexle x y) ∧
  Out X (rot X c m (mid+m - c)) a b∧Win X (rot X c m (mid+m - c)) a b:=by
 obtain⟨h1,h2,h3,h4⟩:=hc
 have B:a≤c∧c≤m∧m≤mid+m - c∧mid+m - c≤b∧c≤mid∧mid≤mid+m - c:=by
  by_cases hc:mid < m
  ·rw[if_pos hc] at hs0 hr0;omega
  ·rw[if_neg hc] at hs0 hr0;omega
 obtain⟨b1,b2,b3,b4,b5,b6⟩:=B
 -- strictly below,across
 have K1:∀ s t x y,c≤s→s < m→m≤t→t < mid+m - c→X[s]? = some x→X[t]? = some y→ltE y x:=by
  intro s t x y k1 k2 k3 k4 hx hy
  have hcr:c < r0:=by
   by_cases hc:mid < m
   ·rw[if_pos hc] at hr0;omega
   ·rw[if_neg hc] at hr0;omega
  have e1:X[c]? = some X[c]:=List.getElem?_eq_getElem (by omega)
  have e2:X[mid+m - 1 - c]? = some X[mid+m - 1 - c]:=List.getElem?_eq_getElem (by omega)
  have k:=h4 _ _ hcr e1 e2
  exact ltE_of_lexle_lt (ord_le hO2 k3 (by omega) (by omega) hy e2) (ltE_of_lt_lexle k (ord_le hO1 b1 k1 k2 e1 hx))
 have K2:∀ s t x y,a≤s→s < c→mid+m - c≤t→t < b→X[s]? = some x→X[t]? = some y→Sp.lexle x y:=by
  intro s t x y k1 k2 k3 k4 hx hy
  have hcs:s0 < c:=by
   by_cases hc:mid < m
   ·rw[if_pos hc] at hs0;omega
   ·rw[if_neg hc] at hs0;omega
  have e1:X[c - 1]? = some X[c - 1]:=List.getElem?_eq_getElem (by omega)
  have e2:X[mid+m - 1 - (c - 1)]? = some X[mid+m - 1 - (c - 1)]:=List.getElem?_eq_getElem (by omega)
  have k:=lexle_of_not (h3 _ _ hcs e1 e2)
  exact lexle_trans (ord_le hO1 k1 (by omega) (by omega) hx e1) (lexle_trans k (ord_le hO2 (by omega) (by omega) k4 e2 hy))
 have G:∀ t,(rot X c m (mid+m - c))[t]? = if c≤t∧t < mid then X[t+(m - c)]? else if mid≤t∧t < mid+m - c then X[t - (mid - c)]? else X[t]?:=by
  intro t
  rw[rot_get X c m (mid+m - c) b2 b3 (by omega) t,show c+(mid+m - c - m)=mid by omega,show mid+m - c - m=mid - c by omega]
 have G1:∀ t,c≤t→t < mid→(rot X c m (mid+m - c))[t]? = X[t+(m - c)]?:=fun t k1 k2=>by rw[G,if_pos ⟨k1,k2⟩]
 have G2:∀ t,mid≤t→t < mid+m - c→(rot X c m (mid+m - c))[t]? = X[t - (mid - c)]?:=fun t k1 k2=>by rw[G,if_neg (by omega),if_pos ⟨k1,k2⟩]
 have G3:∀ t,t < c∨mid+m - c≤t→(rot X c m (mid+m - c))[t]? = X[t]?:=fun t k=>by rw[G,if_neg (by omega),if_neg (by omega)]
 refine⟨b1,b2,b3,b4,b5,b6,rot_St b2 b3 (by omega) K1,?_,?_,?_,?_,?_,?_,?_⟩
 ·intro s t x y k1 k2 k3 hx hy
  rw[G3 s (by omega)] at hx;rw[G3 t (by omega)] at hy
  exact hO1 _ _ _ _ k1 k2 (by omega) hx hy
 ·intro s t x y k1 k2 k3 hx hy
  rw[G1 s (by omega) (by omega)] at hx;rw[G1 t (by omega) (by omega)] at hy
  exact hO2 _ _ _ _ (by omega) (by omega) (by omega) hx hy
 ·intro s t x y k1 k2 k3 hx hy
  rw[G2 s (by omega) (by omega)] at hx;rw[G2 t (by omega) (by omega)] at hy
  exact hO1 _ _ _ _ (by omega) (by omega) (by omega) hx hy
 ·intro s t x y k1 k2 k3 hx hy
  rw[G3 s (by omega)] at hx;rw[G3 t (by omega)] at hy
  exact hO2 _ _ _ _ (by omega) k2 k3 hx hy
 ·intro s t x y k1 k2 k3 k4 hx hy
  by_cases c1:s < c
  ·rw[G3 s (by omega)] at hx
   by_cases c2:t < mid+m - c
   ·rw[G2 t k3 c2] at hy
    exact hO1 _ _ _ _ k1 (by omega) (by omega) hx hy
   ·rw[G3 t (by omega)] at hy
    exact K2 _ _ _ _ k1 c1 (by omega) k4 hx hy
  ·rw[G1 s (by omega) k2] at hx
   by_cases c2:t < mid+m - c
   ·rw[G2 t k3 c2] at hy
    exact lexle_of_lt (K1 _ _ _ _ (by omega) (by omega) (by omega) (by omega) hy hx)
   ·rw[G3 t (by omega)] at hy
    exact hO2 _ _ _ _ (by omega) (by omega) k4 hx hy
 ·intro t ht
  exact G3 t (by omega)
 ·intro t z k1 k2 hz
  by_cases c1:t < c
  ·rw[G3 t (by omega)] at hz;exact⟨t,k1,k2,hz⟩
  ·by_cases c2:t < mid
   ·rw[G1 t (by omega) c2] at hz;exact⟨_,by omega,by omega,hz⟩
   ·by_cases c3:t < mid+m - c
    ·rw[G2 t (by omega) c3] at hz;exact⟨_,by omega,by omega,hz⟩
    ·rw[G3 t (by omega)] at hz;exact⟨t,k1,k2,hz⟩
theorem Ord_of_out {X Y:List Sp.Ed} {a b c d:Nat} (h:Out X Y a b) (k:Ord X c d) (hd:d≤a∨b≤c):Ord Y c d:=by
 intro s t x y k1 k2 k3 hx hy
 rw[h s (by omega)] at hx;rw[h t (by omega)] at hy
 exact k _ _ _ _ k1 k2 k3 hx hy
theorem merge_end {X R Y Z:List Sp.Ed} {a mid b:Nat} (h1:a≤mid) (h2:mid≤b) (hSt:St X R) (hOut:Out X R a b) (hWin:Win X R a b)
  (hx:∀ s t x y,a≤s→s < mid→mid≤t→t < b→R[s]? = some x→R[t]? = some y→Sp.lexle x y) (hY:Mrg R Y a mid) (hZ:Mrg Y Z mid b):Mrg X Z a b:=by
 obtain⟨y1,y2,y3,y4⟩:=hY
 obtain⟨z1,z2,z3,z4⟩:=hZ
 refine⟨hSt.trans (y1.trans z1),?_,?_,?_⟩
 ·intro s t x y k1 k2 k3 hx' hy'
  by_cases c1:t < mid
  ·rw[z3 s (by omega)] at hx';rw[z3 t (by omega)] at hy'
   exact y2 _ _ _ _ k1 k2 c1 hx' hy'
  ·by_cases c2:s < mid
   ·rw[z3 s (by omega)] at hx'
    obtain⟨s',e1,e2,e3⟩:=y4 s x k1 c2 hx'
    obtain⟨t',f1,f2,f3⟩:=z4 t y (by omega) k3 hy'
    rw[y3 t' (by omega)] at f3
    exact hx _ _ _ _ e1 e2 f1 f2 e3 f3
   ·exact z2 _ _ _ _ (by omega) k2 k3 hx' hy'
 ·intro t ht
  rw[z3 t (by omega),y3 t (by omega),hOut t ht]
 ·intro t z k1 k2 hz
  by_cases c1:t < mid
  ·rw[z3 t (by omega)] at hz
   obtain⟨s,e1,e2,e3⟩:=y4 t z k1 c1 hz
   exact hWin _ _ (by omega) (by omega) e3
  ·obtain⟨s,e1,e2,e3⟩:=z4 t z (by omega) k2 hz
   rw[y3 s (by omega)] at e3
   exact hWin _ _ (by omega) (by omega) e3
theorem ord_join {X:List Sp.Ed} {a c b:Nat} (h:a ≥ c∨c ≥ b) (h1:Ord X a c) (h2:Ord X c b):Ord X a b:=by
 intro s t x y k1 k2 k3 hx hy
 rcases h with h | h
 ·exact h2 _ _ _ _ (by omega) k2 k3 hx hy
 ·exact h1 _ _ _ _ k1 k2 (by omega) hx hy
def SymPost (g cap B N a b:Nat) (X:List Sp.Ed) (w:World) (e:Ending) (w':World):Prop :=
 e = .returned (.tuple #[])∧∃ Y,w'.ownsRow B 67 3 (.slice (some ⟨g,0,none⟩) N cap) N (edCells Y)∧w.grownBy w' (some g)∧Mrg X Y a b
theorem symOne_any (g cap B a m b N:Nat) (X:List Sp.Ed) (w:World) (hX:X.length=N) (h:w.ownsRow B 67 3 (.slice (some ⟨g,0,none⟩) N cap) N (edCells X)) (hm:m=a+1) (hmb:m < b) (hb:b≤N) (hl:N≤5000) (hO:Hid (Ord X m b)) :
  Calls Tryz.prog 252 #[.slice (some ⟨g,0,none⟩) N cap,.int .i64 a,.int .i64 m,.int .i64 b,.func (.func 118) #[] #[]] w (SymPost g cap B N a b X w):=by
 have HX:=hde hX
 have HM:=hde hm
 have hw1:IntKind.i64.wrap ((m:Int) - (a:Int))=1:=by rw[IntKind.wrap_i64];omega
 have ham:a < m:=by omega
 have haN:(a:Int) < (N:Int):=by omega
 have ha0:(0:Int)≤(a:Int):=by omega
 clear hX hm
 go_enter Tryz.func252,Tryz.ntmps252
 go_wp2
 go_loopw [10,11] (fun u v wr=>∃ (i j:Nat),u = .int .i64 i∧v = .int .i64 j∧m≤i∧i≤j∧j≤b∧wr.ownsRow B 67 3 (.slice (some ⟨g,0,none⟩) N cap) N (edCells X)∧w.grownBy wr (some g)∧Hid (∀ t x y,m≤t→t < i→X[a]? = some x→X[t]? = some y→ltE y x)∧Hid (∀ t x y,j≤t→t < b→X[a]? = some x→X[t]? = some y→¬ ltE y x)) (fun u v _=>(intOf v - intOf u).toNat)
 case atStart=>exact⟨m,b,rfl,rfl,Nat.le_refl _,by omega,Nat.le_refl _,h,grown_refl _ _,fun t x y h1 h2=>by omega,fun t x y h1 h2=>by omega⟩
 case round =>
  obtain⟨i,j,rfl,rfl,hmi,hij,hjb,ho,hgr,HLO,HHI⟩:=hrel
  by_cases hlt:i < j
  ·have hltz:(i:Int) < (j:Int):=by omega
   have hq1:i≤(i+j) / 2:=by omega
   have hq2:(i+j) / 2 < j:=by omega
   have hq3:(i+j) / 2 < N:=by omega
   have hq4:(((i+j) / 2:Nat):Int) < (N:Int):=by omega
   have hq5:((i:Int)+(j:Int)) / 2 < (N:Int):=by omega
   have hq6:0≤((i:Int)+(j:Int)) / 2:=by omega
   have hq7:(((i:Int)+(j:Int)) / 2).toNat=(i+j) / 2:=by omega
   obtain⟨x1,x0,⟨c0,c1,c2⟩,⟨d0,d1,d2⟩,_,HXX⟩:=own_sw (uh HX) ho ((i+j) / 2) a (by omega) (by omega)
   obtain⟨c,hc⟩:∃ c,cmpE x1 x0=c:=⟨_,rfl⟩
   have HC:=hde hc
   have HLT:=hde (ltE_iff x1 x0)
   rw[hc] at HLT
   clear hc
   have hgz:g < wr.heap.size:=World.block_lt_of_cell? _ _ c0
   by_cases hneg:c < 0
   ·go_wp2_with fail
    go_region_held3 (fun w'=>(w'.cell? ⟨g,(i+j) / 2 * 3,none⟩=some (.int .i64 (x1.frm:Int))∧w'.cell? ⟨g,(i+j) / 2 * 3+1,none⟩=some (.int .i64 (x1.to:Int))∧w'.cell? ⟨g,(i+j) / 2 * 3+2,none⟩=some (.int .i64 x1.n))∧(w'.cell? ⟨g,a * 3,none⟩=some (.int .i64 (x0.frm:Int))∧w'.cell? ⟨g,a * 3+1,none⟩=some (.int .i64 (x0.to:Int))∧w'.cell? ⟨g,a * 3+2,none⟩=some (.int .i64 x0.n)))
     (first | (go_keep;done) | (exact⟨⟨(hb2.cell (p:=⟨g,_,none⟩) hgz).trans c0,(hb2.cell (p:=⟨g,_,none⟩) hgz).trans c1,(hb2.cell (p:=⟨g,_,none⟩) hgz).trans c2⟩,⟨(hb2.cell (p:=⟨g,_,none⟩) hgz).trans d0,(hb2.cell (p:=⟨g,_,none⟩) hgz).trans d1,(hb2.cell (p:=⟨g,_,none⟩) hgz).trans d2⟩⟩))
     (first | (go_at_call 118;refine(edgeCmp_any x1 x0 _).mono ?_;rintro e w2 ⟨rfl,hb2⟩;rw[uh HC]))
    have hb3:Below wr.heap.size wr w2:=(Below.refl _ _).drew.trans hb2
    go_wp2
    go_roundw
    case rel =>
     refine⟨(i+j) / 2+1,j,by go_num,rfl,by omega,by omega,hjb,obl ho hb3,grown_trans hgr (grown_below hb3),?_,HHI⟩
     intro t x y h1 h2 hx hy
     have hlt':=(uh HLT).1 hneg
     rw[(uh HXX).2] at hx
     injection hx with hx
     subst hx
     exact ltE_of_lexle_lt (ord_le (uh hO) h1 (by omega) (by omega) hy (uh HXX).1) hlt'
    case measure=>simp[intOf];omega
   ·go_wp2_with fail
    go_region_held3 (fun w'=>(w'.cell? ⟨g,(i+j) / 2 * 3,none⟩=some (.int .i64 (x1.frm:Int))∧w'.cell? ⟨g,(i+j) / 2 * 3+1,none⟩=some (.int .i64 (x1.to:Int))∧w'.cell? ⟨g,(i+j) / 2 * 3+2,none⟩=some (.int .i64 x1.n))∧(w'.cell? ⟨g,a * 3,none⟩=some (.int .i64 (x0.frm:Int))∧w'.cell? ⟨g,a * 3+1,none⟩=some (.int .i64 (x0.to:Int))∧w'.cell? ⟨g,a * 3+2,none⟩=some (.int .i64 x0.n)))
     (first | (go_keep;done) | (exact⟨⟨(hb2.cell (p:=⟨g,_,none⟩) hgz).trans c0,(hb2.cell (p:=⟨g,_,none⟩) hgz).trans c1,(hb2.cell (p:=⟨g,_,none⟩) hgz).trans c2⟩,⟨(hb2.cell (p:=⟨g,_,none⟩) hgz).trans d0,(hb2.cell (p:=⟨g,_,none⟩) hgz).trans d1,(hb2.cell (p:=⟨g,_,none⟩) hgz).trans d2⟩⟩))
     (first | (go_at_call 118;refine(edgeCmp_any x1 x0 _).mono ?_;rintro e w2 ⟨rfl,hb2⟩;rw[uh HC]))
    have hb3:Below wr.heap.size wr w2:=(Below.refl _ _).drew.trans hb2
    go_wp2
    go_roundw
    case rel =>
     refine⟨i,(i+j) / 2,rfl,by go_num,hmi,by omega,by omega,obl ho hb3,grown_trans hgr (grown_below hb3),HLO,?_⟩
     intro t x y h1 h2 hx hy hn
     rw[(uh HXX).2] at hx
     injection hx with hx
     subst hx
     exact(Int.not_lt.2 hneg) ((uh HLT).2 (ltE_of_lexle_lt (ord_le (uh hO) (by omega) h1 h2 (uh HXX).1 hy) hn))
    case measure=>simp[intOf];omega
  ·obtain rfl:i=j:=by omega
   clear hij
   go_wp2
   have hwi:IntKind.i64.wrap ((i:Int) - 1)=((i - 1:Nat):Int):=by rw[IntKind.wrap_i64];omega
   go_loopw [13] (fun u wr2=>∃ (k:Nat) (Y:List Sp.Ed),u = .int .i64 k∧a≤k∧k≤i - 1∧wr2.ownsRow B 67 3 (.slice (some ⟨g,0,none⟩) N cap) N (edCells Y)∧w.grownBy wr2 (some g)∧Hid (Y.length=N)∧Hid (Dn X Y a k)) (fun u _=>(i - (intOf u).toNat))
   case atStart=>exact⟨a,X,rfl,Nat.le_refl _,by omega,ho,hgr,HX,Dn.refl _ _⟩
   case round =>
    obtain⟨k,Y,rfl,hak,hki,ho2,hgr2,HY,HD⟩:=hrel
    clear ho hgr h
    by_cases hlt2:k < i - 1
    ·have hk0:(k:Int) < ((i - 1:Nat):Int):=by omega
     have hk1:(k:Int) < (N:Int):=by omega
     have hk2:(k:Int)+1 < (N:Int):=by omega
     have hk3:(0:Int)≤(k:Int)+1:=by omega
     have hk4:((k:Int)+1).toNat=k+1:=by omega
     have hk5:IntKind.i64.wrap ((k:Int)+1)=(k:Int)+1:=by rw[IntKind.wrap_i64];omega
     have f0:=own_frozen ho2 (k * 3)
     have f1:=own_frozen ho2 (k * 3+1)
     have f2:=own_frozen ho2 (k * 3+2)
     have f3:=own_frozen ho2 ((k+1) * 3)
     have f4:=own_frozen ho2 ((k+1) * 3+1)
     have f5:=own_frozen ho2 ((k+1) * 3+2)
     obtain⟨z0,z1,⟨r0,r1,r2⟩,⟨s0,s1,s2⟩,HOO,HZZ⟩:=own_sw (uh HY) ho2 k (k+1) (by omega) (by omega)
     have HGR:=hde hgr2
     clear ho2 hgr2
     go_wp2_with fail
     go_region
     go_wp2
     go_roundw
     case rel =>
      refine⟨k+1,sw Y k (k+1),by go_num,by omega,by omega,(uh HOO).1,grown_trans (uh HGR) (uh HOO).2,by show _=_;rw[sw_len];exact uh HY,(uh HD).step hak (by rw[uh HX];omega) (fun x y hx hy=>(uh HLO) (k+1) x y (by have:=uh HM;omega) (by omega) hx hy)⟩
     case measure=>simp[intOf];omega
    ·have hk0:¬ (k:Int) < ((i - 1:Nat):Int):=by omega
     have hki2:k=i - 1:=by omega
     go_wp2
     go_end0
     subst hki2
     exact⟨rfl,Y,ho2,hgr2,(uh HD).close (uh HM) hmi hjb (by rw[uh HX];exact hb) (uh hO) (uh HLO) (uh HHI)⟩
theorem symLast_any (g cap B a m b N:Nat) (X:List Sp.Ed) (w:World) (hX:X.length=N) (h:w.ownsRow B 67 3 (.slice (some ⟨g,0,none⟩) N cap) N (edCells X)) (ham:a+1 < m) (hm:b=m+1) (hb:b≤N) (hl:N≤5000) (hO:Hid (Ord X a m)) :
  Calls Tryz.prog 252 #[.slice (some ⟨g,0,none⟩) N cap,.int .i64 a,.int .i64 m,.int .i64 b,.func (.func 118) #[] #[]] w (SymPost g cap B N a b X w):=by
 have HX:=hde hX
 have HM:=hde hm
 have hw0:IntKind.i64.wrap ((m:Int) - (a:Int))=(m:Int) - (a:Int):=by rw[IntKind.wrap_i64];omega
 have hw00:((m:Int) - (a:Int) == 1)=false:=by rw[beq_eq_false_iff_ne];omega
 have hw1:IntKind.i64.wrap ((b:Int) - (m:Int))=1:=by rw[IntKind.wrap_i64];omega
 have hmb:m < b:=by omega
 have hmN:(m:Int) < (N:Int):=by omega
 have hm0:(0:Int)≤(m:Int):=by omega
 clear hX hm
 go_enter Tryz.func252,Tryz.ntmps252
 go_wp2
 go_loopw [14,15] (fun u v wr=>∃ (i j:Nat),u = .int .i64 i∧v = .int .i64 j∧a≤i∧i≤j∧j≤m∧wr.ownsRow B 67 3 (.slice (some ⟨g,0,none⟩) N cap) N (edCells X)∧w.grownBy wr (some g)∧Hid (∀ t x y,a≤t→t < i→X[m]? = some x→X[t]? = some y→¬ ltE x y)∧Hid (∀ t x y,j≤t→t < m→X[m]? = some x→X[t]? = some y→ltE x y)) (fun u v _=>(intOf v - intOf u).toNat)
 case atStart=>exact⟨a,m,rfl,rfl,Nat.le_refl _,by omega,Nat.le_refl _,h,grown_refl _ _,fun t x y h1 h2=>by omega,fun t x y h1 h2=>by omega⟩
 case round =>
  obtain⟨i,j,rfl,rfl,hmi,hij,hjb,ho,hgr,HLO,HHI⟩:=hrel
  by_cases hlt:i < j
  ·have hltz:(i:Int) < (j:Int):=by omega
   have hq1:i≤(i+j) / 2:=by omega
   have hq2:(i+j) / 2 < j:=by omega
   have hq3:(i+j) / 2 < N:=by omega
   have hq4:(((i+j) / 2:Nat):Int) < (N:Int):=by omega
   have hq5:((i:Int)+(j:Int)) / 2 < (N:Int):=by omega
   have hq6:0≤((i:Int)+(j:Int)) / 2:=by omega
   have hq7:(((i:Int)+(j:Int)) / 2).toNat=(i+j) / 2:=by omega
   obtain⟨x1,x0,⟨c0,c1,c2⟩,⟨d0,d1,d2⟩,_,HXX⟩:=own_sw (uh HX) ho m ((i+j) / 2) (by omega) (by omega)
   obtain⟨c,hc⟩:∃ c,cmpE x1 x0=c:=⟨_,rfl⟩
   have HC:=hde hc
   have HLT:=hde (ltE_iff x1 x0)
   rw[hc] at HLT
   clear hc
   have hgz:g < wr.heap.size:=World.block_lt_of_cell? _ _ c0
   by_cases hneg:c < 0
   ·go_wp2_with fail
    go_region_held3 (fun w'=>(w'.cell? ⟨g,m * 3,none⟩=some (.int .i64 (x1.frm:Int))∧w'.cell? ⟨g,m * 3+1,none⟩=some (.int .i64 (x1.to:Int))∧w'.cell? ⟨g,m * 3+2,none⟩=some (.int .i64 x1.n))∧(w'.cell? ⟨g,(i+j) / 2 * 3,none⟩=some (.int .i64 (x0.frm:Int))∧w'.cell? ⟨g,(i+j) / 2 * 3+1,none⟩=some (.int .i64 (x0.to:Int))∧w'.cell? ⟨g,(i+j) / 2 * 3+2,none⟩=some (.int .i64 x0.n)))
     (first | (go_keep;done) | (exact⟨⟨(hb2.cell (p:=⟨g,_,none⟩) hgz).trans c0,(hb2.cell (p:=⟨g,_,none⟩) hgz).trans c1,(hb2.cell (p:=⟨g,_,none⟩) hgz).trans c2⟩,⟨(hb2.cell (p:=⟨g,_,none⟩) hgz).trans d0,(hb2.cell (p:=⟨g,_,none⟩) hgz).trans d1,(hb2.cell (p:=⟨g,_,none⟩) hgz).trans d2⟩⟩))
     (first | (go_at_call 118;refine(edgeCmp_any x1 x0 _).mono ?_;rintro e w2 ⟨rfl,hb2⟩;rw[uh HC]))
    have hb3:Below wr.heap.size wr w2:=(Below.refl _ _).drew.trans hb2
    go_wp2
    go_roundw
    case rel =>
     refine⟨i,(i+j) / 2,rfl,by go_num,hmi,by omega,by omega,obl ho hb3,grown_trans hgr (grown_below hb3),HLO,?_⟩
     intro t x y h1 h2 hx hy
     have hlt':=(uh HLT).1 hneg
     rw[(uh HXX).1] at hx
     injection hx with hx
     subst hx
     exact ltE_of_lt_lexle hlt' (ord_le (uh hO) (by omega) h1 h2 (uh HXX).2 hy)
    case measure=>simp[intOf];omega
   ·go_wp2_with fail
    go_region_held3 (fun w'=>(w'.cell? ⟨g,m * 3,none⟩=some (.int .i64 (x1.frm:Int))∧w'.cell? ⟨g,m * 3+1,none⟩=some (.int .i64 (x1.to:Int))∧w'.cell? ⟨g,m * 3+2,none⟩=some (.int .i64 x1.n))∧(w'.cell? ⟨g,(i+j) / 2 * 3,none⟩=some (.int .i64 (x0.frm:Int))∧w'.cell? ⟨g,(i+j) / 2 * 3+1,none⟩=some (.int .i64 (x0.to:Int))∧w'.cell? ⟨g,(i+j) / 2 * 3+2,none⟩=some (.int .i64 x0.n)))
     (first | (go_keep;done) | (exact⟨⟨(hb2.cell (p:=⟨g,_,none⟩) hgz).trans c0,(hb2.cell (p:=⟨g,_,none⟩) hgz).trans c1,(hb2.cell (p:=⟨g,_,none⟩) hgz).trans c2⟩,⟨(hb2.cell (p:=⟨g,_,none⟩) hgz).trans d0,(hb2.cell (p:=⟨g,_,none⟩) hgz).trans d1,(hb2.cell (p:=⟨g,_,none⟩) hgz).trans d2⟩⟩))
     (first | (go_at_call 118;refine(edgeCmp_any x1 x0 _).mono ?_;rintro e w2 ⟨rfl,hb2⟩;rw[uh HC]))
    have hb3:Below wr.heap.size wr w2:=(Below.refl _ _).drew.trans hb2
    go_wp2
    rotate_left
    ·rename_i hx;exfalso;simp at hx;omega
    go_roundw
    case rel =>
     refine⟨(i+j) / 2+1,j,by go_num,rfl,by omega,by omega,hjb,obl ho hb3,grown_trans hgr (grown_below hb3),?_,HHI⟩
     intro t x y h1 h2 hx hy hn
     rw[(uh HXX).1] at hx
     injection hx with hx
     subst hx
     exact(Int.not_lt.2 hneg) ((uh HLT).2 (ltE_of_lt_lexle hn (ord_le (uh hO) h1 (by omega) (by omega) hy (uh HXX).2)))
    case measure=>simp[intOf];omega
  ·obtain rfl:i=j:=by omega
   clear hij
   go_wp2
   go_loopw [17] (fun u wr2=>∃ (k:Nat) (Y:List Sp.Ed),u = .int .i64 k∧i≤k∧k≤m∧wr2.ownsRow B 67 3 (.slice (some ⟨g,0,none⟩) N cap) N (edCells Y)∧w.grownBy wr2 (some g)∧Hid (Y.length=N)∧Hid (Up X Y k m)) (fun u _=>(intOf u).toNat)
   case atStart=>exact⟨m,X,rfl,by omega,Nat.le_refl _,ho,hgr,HX,Up.refl _ _⟩
   case round =>
    obtain⟨k,Y,rfl,hak,hki,ho2,hgr2,HY,HD⟩:=hrel
    clear ho hgr h
    by_cases hlt2:i < k
    ·obtain⟨q,HQ⟩:∃ q,Hid (k=q+1):=⟨k - 1,by show _=_;omega⟩
     have hqk:q < k:=by have:=uh HQ;omega
     have hk0:(i:Int) < (k:Int):=by omega
     have hk1:(k:Int) < (N:Int):=by omega
     have hk2:(q:Int) < (N:Int):=by omega
     have hk3:(0:Int)≤(q:Int):=by omega
     have hw2:IntKind.i64.wrap ((k:Int) - 1)=(q:Int):=by have:=uh HQ;rw[IntKind.wrap_i64];omega
     have f0:=own_frozen ho2 (k * 3)
     have f1:=own_frozen ho2 (k * 3+1)
     have f2:=own_frozen ho2 (k * 3+2)
     have f3:=own_frozen ho2 (q * 3)
     have f4:=own_frozen ho2 (q * 3+1)
     have f5:=own_frozen ho2 (q * 3+2)
     obtain⟨z0,z1,⟨r0,r1,r2⟩,⟨s0,s1,s2⟩,HOO,HZZ⟩:=own_sw (uh HY) ho2 k q (by omega) (by omega)
     have HGR:=hde hgr2
     clear ho2 hgr2
     go_wp2_with fail
     go_region
     go_wp2
     go_roundw
     case rel =>
      have hkq:=uh HQ
      subst hkq
      refine⟨q,sw Y (q+1) q,by go_num,by omega,by omega,(uh HOO).1,grown_trans (uh HGR) (uh HOO).2,by show _=_;rw[sw_len];exact uh HY,(uh HD).step (by omega) (by rw[uh HX];omega) (fun x y hx hy=>(uh HHI) q x y (by omega) (by omega) hx hy)⟩
     case measure=>have:=uh HQ;simp[intOf];omega
    ·have hk0:¬ (i:Int) < (k:Int):=by omega
     obtain rfl:i=k:=by omega
     go_wp2
     go_end0
     exact⟨rfl,Y,ho2,hgr2,(uh HD).close (uh HM) hmi hjb (by rw[uh HX];exact hb) (uh hO) (uh HLO) (uh HHI)⟩
end Go.Proofs.YteflnddphpjahaaGreatDoor
