import Derived.Test.YteflnddphpjahaaGreatDoorClRqGtoSrtD
import Derived.Deep.DeepMust
import Derived.Test.YteflnddphpjahaaGreatDoorClTabDtoSrtA
import Derived.BigRegion
import Derived.BigQuiet
import Derived.Deep.RegionHeld3
set_option linter.unusedVariables false
set_option linter.unusedSimpArgs false
set_option maxRecDepth 100000
set_option maxHeartbeats 16000000
namespace Go.Proofs.YteflnddphpjahaaGreatDoor
open Go.RowKit
theorem rot_gt (Y:List Sp.Ed) (m i j:Nat) (hij:j < i) (him:i≤m) (hl:m+j≤Y.length):rot (swr Y (m - i) m j) (m - (i - j)) m (m+j)=rot Y (m - i) m (m+j):=by
 obtain⟨A,U,V,B,rfl,hA,hU,hV⟩:=rot_cut Y (m - i) m (m+j) (by omega) (by omega) hl
 obtain⟨U1,U2,rfl,h1⟩:∃ U1 U2,U=U1++U2∧U1.length=j:=⟨U.take j,U.drop j,(List.take_append_drop _ _).symm,by simp;omega⟩
 rw[List.length_append] at hU
 have e1:=swr_split A U1 U2 V B (by omega)
 have e2:=rot_split (A++V) U2 U1 B
 have e3:=rot_split A (U1++U2) V B
 rw[List.length_append] at e2 e3
 rw[show A.length+U1.length+U2.length=m by omega,h1,hA] at e1
 rw[show A.length+V.length+U2.length=m by omega,show A.length+V.length=m - (i - j) by omega,h1] at e2
 rw[show A.length+(U1.length+U2.length)=m by omega,show m+V.length=m+j by omega,hA] at e3
 rw[e3,List.append_assoc,e1,← List.append_assoc,e2]
 simp[List.append_assoc]
theorem rot_lt (Y:List Sp.Ed) (m i j:Nat) (hij:i < j) (him:i≤m) (hl:m+j≤Y.length):rot (swr Y (m - i) (m+j - i) i) (m - i) m (m+(j - i))=rot Y (m - i) m (m+j):=by
 obtain⟨A,U,V,B,rfl,hA,hU,hV⟩:=rot_cut Y (m - i) m (m+j) (by omega) (by omega) hl
 obtain⟨V1,V2,rfl,h1⟩:∃ V1 V2,V=V1++V2∧V1.length=j - i:=⟨V.take (j - i),V.drop (j - i),(List.take_append_drop _ _).symm,by simp;omega⟩
 rw[List.length_append] at hV
 have e1:=swr_split A U V1 V2 B (by omega)
 have e2:=rot_split A V2 V1 (U++B)
 have e3:=rot_split A U (V1++V2) B
 rw[List.length_append] at e3
 rw[show A.length+U.length+V1.length=m+j - i by omega,show U.length=i by omega,hA] at e1
 rw[show A.length+V2.length=m by omega,show m+V1.length=m+(j - i) by omega,hA] at e2
 rw[show A.length+U.length=m by omega,show m+(V1.length+V2.length)=m+j by omega,hA] at e3
 rw[e3,List.append_assoc,e1,e2]
 simp[List.append_assoc]
theorem rot_same (Y:List Sp.Ed) (m i:Nat) (him:i≤m) (hl:m+i≤Y.length):swr Y (m - i) m i=rot Y (m - i) m (m+i):=by
 obtain⟨A,U,V,B,rfl,hA,hU,hV⟩:=rot_cut Y (m - i) m (m+i) (by omega) (by omega) hl
 have e1:=swr_split A U [] V B (by omega)
 have e3:=rot_split A U V B
 simp only[List.nil_append,List.length_nil,Nat.add_zero] at e1
 rw[show A.length+U.length=m by omega,show U.length=i by omega,hA] at e1
 rw[show A.length+U.length=m by omega,show m+V.length=m+i by omega,hA] at e3
 rw[e1,e3]
theorem swapRange_at (g cap B a b n N:Nat) (a' b' n':Int) (X:List Sp.Ed) (fv:Value) (w:World) (ha:a'=(a:Int)) (hb':b'=(b:Int)) (hn:n'=(n:Int)) (hX:X.length=N) (h:w.ownsRow B 67 3 (.slice (some ⟨g,0,none⟩) N cap) N (edCells X)) (hab:a+n≤b) (hb:b+n≤N) (hl:N≤5000) :
  Calls Tryz.prog 333 #[.slice (some ⟨g,0,none⟩) N cap,.int .i64 a',.int .i64 b',.int .i64 n',fv] w fun e w'=>e = .returned (.tuple #[]) ∧
   w'.ownsRow B 67 3 (.slice (some ⟨g,0,none⟩) N cap) N (edCells (swr X a b n))∧w.grownBy w' (some g):=by
 subst ha hb' hn hX
 exact swapRange_any g cap B a b n X fv w h hab hb hl
theorem rotate_any (g cap B a m b N:Nat) (X:List Sp.Ed) (fv:Value) (w:World) (hX:X.length=N) (h:w.ownsRow B 67 3 (.slice (some ⟨g,0,none⟩) N cap) N (edCells X)) (ham:a < m) (hmb:m < b) (hb:b≤N) (hl:N≤5000) :
  Calls Tryz.prog 299 #[.slice (some ⟨g,0,none⟩) N cap,.int .i64 a,.int .i64 m,.int .i64 b,fv] w fun e w'=>e = .returned (.tuple #[]) ∧
   w'.ownsRow B 67 3 (.slice (some ⟨g,0,none⟩) N cap) N (edCells (rot X a m b))∧w.grownBy w' (some g):=by
 have HX:=hde hX
 clear hX
 go_enter Tryz.func299,Tryz.ntmps299
 go_wp2
 go_loopw [10,11] (fun u v wr=>∃ (i j:Nat) (Y:List Sp.Ed),u = .int .i64 i∧v = .int .i64 j∧0 < i∧0 < j∧i≤m - a∧j≤b - m∧Hid (Y.length=N)∧wr.ownsRow B 67 3 (.slice (some ⟨g,0,none⟩) N cap) N (edCells Y)∧w.grownBy wr (some g)∧Hid (rot Y (m - i) m (m+j)=rot X a m b)) (fun u v _=>(intOf u).toNat+(intOf v).toNat)
 case atStart=>exact⟨m - a,b - m,X,by go_num,by go_num,by omega,by omega,by omega,by omega,HX,h,grown_refl _ _,by show _=_;rw[show m - (m - a)=a by omega,show m+(b - m)=b by omega]⟩
 case round =>
  obtain⟨i,j,Y,rfl,rfl,hi0,hj0,hi,hj,HY,ho,hgr,HR⟩:=hrel
  have HO:=hde ho
  have HGR:=hde hgr
  clear ho hgr h
  rcases Nat.lt_trichotomy i j with hij | hij | hij
  ·have h1:((i:Int) != (j:Int))=true:=by rw[bne_iff_ne];omega
   go_wp2_with fail
   refine(swapRange_at g cap B (m - i) (m+j - i) i N _ _ _ Y fv _ (by omega) (by omega) (by omega) (uh HY) (uh HO) (by omega) (by omega) hl).mono ?_
   rintro e w2 ⟨rfl,ho2,hg2⟩
   go_wp2
   go_roundw
   case rel=>exact⟨i,j - i,_,rfl,by go_num,hi0,by omega,hi,by omega,by show _=_;rw[swr_len];exact uh HY,ho2,grown_trans (uh HGR) hg2,by show _=_;rw[← uh HR];exact rot_lt Y m i j hij (by omega) (by rw[uh HY];omega)⟩
   case measure=>simp[intOf];omega
  ·subst hij
   have h1:((i:Int) != (i:Int))=false:=by simp
   go_wp2_with fail
   refine(swapRange_at g cap B (m - i) m i N _ _ _ Y fv _ (by omega) (by omega) (by omega) (uh HY) (uh HO) (by omega) (by omega) hl).mono ?_
   rintro e w2 ⟨rfl,ho2,hg2⟩
   go_wp2
   go_end0
   refine⟨rfl,?_,grown_trans (uh HGR) hg2⟩
   rw[← uh HR,← rot_same Y m i (by omega) (by rw[uh HY];omega)]
   exact ho2
  ·have h1:((i:Int) != (j:Int))=true:=by rw[bne_iff_ne];omega
   go_wp2_with fail
   refine(swapRange_at g cap B (m - i) m j N _ _ _ Y fv _ (by omega) (by omega) (by omega) (uh HY) (uh HO) (by omega) (by omega) hl).mono ?_
   rintro e w2 ⟨rfl,ho2,hg2⟩
   go_wp2
   go_roundw
   case rel=>exact⟨i - j,j,_,by go_num,rfl,by omega,hj0,by omega,hj,by show _=_;rw[swr_len];exact uh HY,ho2,grown_trans (uh HGR) hg2,by show _=_;rw[← uh HR];exact rot_gt Y m i j hij (by omega) (by rw[uh HY];omega)⟩
   case measure=>simp[intOf];omega
end Go.Proofs.YteflnddphpjahaaGreatDoor
namespace Go.Proofs.YteflnddphpjahaaGreatDoor.Sp
open Go
def verts (L:List Ln):Tb:=(L.filter fun l=>!l.edge).map fun l=>(l.frm,l.n)
theorem verts_append (A B:List Ln):verts (A++B)=verts A++verts B:=by simp[verts]
theorem verts_len (L:List Ln):(verts L).length=nv L:=by
 have h:∀ M:List Ln,(M.filter fun l=>!l.edge).length+(M.filter fun l=>l.edge).length=M.length:=by
  intro M
  induction M with
  | nil=>rfl
  | cons l t ih=>cases hl:l.edge <;> simp[hl] <;> omega
 have:=h L
 unfold verts nv edges
 rw[List.length_map];omega
theorem hasV_all (L:List Ln) (n:Nat) (h:L.length≤n) (a:Int):hasV L n a=thas (verts L) a:=by
 unfold hasV thas verts
 rw[List.take_of_length_le h]
 induction L with
 | nil=>rfl
 | cons l t ih =>
  have:=ih (by simp at h;omega)
  cases hl:l.edge with
  | true=>simp only[List.any_cons,isV,hl,Bool.not_true,Bool.false_and,Bool.false_or,List.filter_cons];simpa [isV] using this
  | false=>simp only[List.any_cons,isV,hl,Bool.not_false,Bool.true_and,List.filter_cons,if_true,List.map_cons];rw[← this]
theorem thas_perm {T U:Tb} (h:T.Perm U) (a:Int):thas T a=thas U a:=by
 unfold thas
 apply Bool.eq_iff_iff.2
 rw[List.any_eq_true,List.any_eq_true]
 constructor
 ·rintro⟨p,hp,e⟩;exact⟨p,h.mem_iff.1 hp,e⟩
 ·rintro⟨p,hp,e⟩;exact⟨p,h.mem_iff.2 hp,e⟩
theorem tlow_perm {T U:Tb} (h:T.Perm U) (a:Int):tlow T a=tlow U a:=(h.filter _).length_eq
theorem tlow_verts (L:List Ln) (a:Int):tlow (verts L) a=low L a:=by
 unfold tlow verts low
 rw[List.filter_map,List.length_map,List.filter_filter]
 congr 2
 funext l
 simp[isLow,Bool.and_comm]
theorem tins_perm (T:Tb) (a v:Int):(tins T a v).Perm ((a,v) :: T):=by
 unfold tins
 refine List.perm_middle.trans ?_
 rw[List.take_append_drop]
theorem says_append (P Q:List (Option Ln)):says (P++Q)=says P++says Q:=by simp[says]
theorem nums_len (P:List (Option Ln)):∀ k,(numsFrom P k).length=(says P).length:=by
 induction P with
 | nil=>intro k;rfl
 | cons p t ih =>
  intro k
  cases p with
  | none=>simpa [numsFrom,says] using ih (k+1)
  | some l=>simpa [numsFrom,says] using ih (k+1)
theorem nums_at (P R:List (Option Ln)) (l:Ln):(numsFrom (P++some l :: R) 0).getD (says P).length 0=P.length:=by
 rw[nums_append,← nums_len P 0]
 simp[numsFrom,List.getD]
theorem says_at (P R:List (Option Ln)) (l:Ln):(says (P++some l :: R))[(says P).length]? = some l:=by
 rw[says_append];simp[says]
theorem gv_spec:∀ (R P:List (Option Ln)) (T:Tb),tsorted T→T.Perm (verts (says P))→(∀ i,i < (says P).length→twiceAt (says (P++R)) i=false) →
  (∃ i,first (twiceAt (says (P++R))) (says (P++R)).length=some i∧gv R P.length T = .error ((numsFrom (P++R) 0).getD i 0)) ∨
  (first (twiceAt (says (P++R))) (says (P++R)).length=none∧∃ T',gv R P.length T = .ok T'∧tsorted T'∧T'.Perm (verts (says (P++R)))):=by
 intro R
 induction R with
 | nil =>
  intro P T hs hp ht
  right
  rw[List.append_nil] at ht ⊢
  exact⟨first_none ht,T,rfl,hs,hp⟩
 | cons q r ih =>
  intro P T hs hp ht
  have e:P++q :: r=(P++[q])++r:=by simp
  have hlen:(P++[q]).length=P.length+1:=by simp
  cases q with
  | none =>
   have hsay:says (P++[none])=says P:=by rw[says_append];simp[says]
   have:=ih (P++[none]) T hs (by rw[hsay];exact hp) (by rw[hsay,← e];exact ht)
   rw[← e,hlen] at this
   exact this
  | some l =>
   have hsay:says (P++[some l])=says P++[l]:=by rw[says_append];simp[says]
   have hat:=says_at P r l
   have hlt:(says P).length < (says (P++some l :: r)).length:=by rw[says_append];simp[says]
   have htk:(says (P++some l :: r)).take (says P).length=says P:=by rw[says_append];simp
   cases hed:l.edge with
   | true =>
    have hv:verts (says (P++[some l]))=verts (says P):=by rw[hsay,verts_append];simp[verts,hed]
    have h0:twiceAt (says (P++some l :: r)) (says P).length=false:=by unfold twiceAt;rw[hat];simp[hed]
    have:=ih (P++[some l]) T hs (by rw[hv];exact hp) (by
     intro i hi
     rw[← e]
     rw[hsay] at hi
     simp at hi
     rcases Nat.lt_or_eq_of_le (Nat.le_of_lt_succ hi) with h | h
     ·exact ht i h
     ·rw[h];exact h0)
    rw[← e,hlen] at this
    have hg:gv (some l :: r) P.length T=gv r (P.length+1) T:=by simp only[gv,hed,if_true]
    rw[hg];exact this
   | false =>
    have h1:twiceAt (says (P++some l :: r)) (says P).length=thas T l.frm:=by
     unfold twiceAt;rw[hat]
     simp only[hed,Bool.not_false,Bool.true_and]
     rw[thas_perm hp,← hasV_all (says P) (says P).length (Nat.le_refl _)]
     unfold hasV
     rw[htk,List.take_length]
    cases hh:thas T l.frm with
    | true =>
     left
     refine⟨(says P).length,first_some hlt ht (by rw[h1,hh]),?_⟩
     rw[nums_at]
     simp only[gv,hed,hh];rfl
    | false =>
     have hv:verts (says (P++[some l]))=verts (says P)++[(l.frm,l.n)]:=by rw[hsay,verts_append];simp[verts,hed]
     have:=ih (P++[some l]) (tins T l.frm l.n) (tins_sorted hs hh) (by
      rw[hv]
      refine(tins_perm T l.frm l.n).trans ?_
      refine(List.Perm.cons _ hp).trans ?_
      exact(List.perm_append_singleton _ _).symm) (by
       intro i hi
       rw[← e]
       rw[hsay] at hi
       simp at hi
       rcases Nat.lt_or_eq_of_le (Nat.le_of_lt_succ hi) with h | h
       ·exact ht i h
       ·rw[h,h1,hh])
     rw[← e,hlen] at this
     have hg:gv (some l :: r) P.length T=gv r (P.length+1) (tins T l.frm l.n):=by simp only[gv,hed,hh];rfl
     rw[hg];exact this
def edsOf (L M:List Ln):List Ed:=(M.filter fun l=>l.edge).map fun l=>⟨low L l.frm,low L l.to,l.n⟩
theorem edsOf_append (L A B:List Ln):edsOf L (A++B)=edsOf L A++edsOf L B:=by simp[edsOf]
theorem edsOf_len (L:List Ln):(edsOf L L).length=edges L:=by simp[edsOf,edges]
theorem ge_spec (T:Tb) (L:List Ln) (hp:T.Perm (verts L)):∀ (R P:List (Option Ln)),says (P++R)=L→(∀ i,i < (says P).length→loose L i=false) →
  (∃ i,first (loose L) L.length=some i∧ge T R P.length (edsOf L (says P)) = .error ((numsFrom (P++R) 0).getD i 0)) ∨
  (first (loose L) L.length=none∧ge T R P.length (edsOf L (says P)) = .ok (edsOf L L)):=by
 have hhas:∀ a,thas T a=hasV L L.length a:=fun a=>by rw[thas_perm hp,hasV_all L _ (Nat.le_refl _)]
 have hlow:∀ a,tlow T a=low L a:=fun a=>by rw[tlow_perm hp,tlow_verts]
 intro R
 induction R with
 | nil =>
  intro P hL ht
  right
  rw[List.append_nil] at hL
  rw[hL] at ht
  rw[hL]
  exact⟨first_none ht,rfl⟩
 | cons q r ih =>
  intro P hL ht
  have e:P++q :: r=(P++[q])++r:=by simp
  have hlen:(P++[q]).length=P.length+1:=by simp
  cases q with
  | none =>
   have hsay:says (P++[none])=says P:=by rw[says_append];simp[says]
   have:=ih (P++[none]) (by rw[← e];exact hL) (by rw[hsay];exact ht)
   rw[← e,hlen,hsay] at this
   exact this
  | some l =>
   have hsay:says (P++[some l])=says P++[l]:=by rw[says_append];simp[says]
   have hat:=says_at P r l
   have hlt:(says P).length < (says (P++some l :: r)).length:=by rw[says_append];simp[says]
   rw[hL] at hat hlt
   have hnext:loose L (says P).length=false→∀ i,i < (says (P++[some l])).length→loose L i=false:=by
    intro h0 i hi
    rw[hsay] at hi
    simp at hi
    rcases Nat.lt_or_eq_of_le (Nat.le_of_lt_succ hi) with h | h
    ·exact ht i h
    ·rw[h];exact h0
   cases hed:l.edge with
   | false =>
    have h0:loose L (says P).length=false:=by unfold loose;rw[hat];simp[hed]
    have hv:edsOf L (says (P++[some l]))=edsOf L (says P):=by rw[hsay,edsOf_append];simp[edsOf,hed]
    have:=ih (P++[some l]) (by rw[← e];exact hL) (hnext h0)
    rw[← e,hlen,hv] at this
    have hg:ge T (some l :: r) P.length (edsOf L (says P))=ge T r (P.length+1) (edsOf L (says P)):=by simp only[ge,hed];rfl
    rw[hg];exact this
   | true =>
    by_cases hb:thas T l.frm=true∧thas T l.to=true
    ·have h0:loose L (says P).length=false:=by unfold loose;rw[hat];simp[hed,← hhas,hb.1,hb.2]
     have hv:edsOf L (says (P++[some l]))=edsOf L (says P)++[⟨low L l.frm,low L l.to,l.n⟩]:=by rw[hsay,edsOf_append];simp[edsOf,hed]
     have:=ih (P++[some l]) (by rw[← e];exact hL) (hnext h0)
     rw[← e,hlen,hv] at this
     have hg:ge T (some l :: r) P.length (edsOf L (says P))=ge T r (P.length+1) (edsOf L (says P)++[⟨low L l.frm,low L l.to,l.n⟩]):=by
      simp only[ge,hed,if_true];rw[if_pos hb,hlow,hlow]
     rw[hg];exact this
    ·left
     refine⟨(says P).length,first_some hlt ht ?_,?_⟩
     ·unfold loose;rw[hat];simp only[hed,Bool.true_and,← hhas]
      cases h1:thas T l.frm with
      | false=>rfl
      | true =>
       cases h2:thas T l.to with
       | false=>rfl
       | true=>exact absurd ⟨h1,h2⟩ hb
     ·rw[nums_at]
      simp only[ge,hed,if_true];rw[if_neg hb]
theorem tlow_get {T:Tb} (hs:tsorted T) {j:Nat} (hj:j < T.length):tlow T (T[j]).1=j :=
 tlow_at (by omega) (fun i hi hij=>tsorted_lt hs hij hj) (fun i hi hij=>tsorted_le hs hij hi)
theorem filter_place {T:Tb} (hs:tsorted T) {k:Nat} (hk:k < T.length):T.filter (fun p=>tlow T p.1 == k)=[T[k]]:=by
 have e:T=T.take k++T[k] :: T.drop (k+1):=by
  rw[← List.drop_eq_getElem_cons hk,List.take_append_drop]
 have hA:(T.take k).filter (fun p=>tlow T p.1 == k)=[]:=by
  rw[List.filter_eq_nil_iff]
  intro p hp
  obtain⟨j,hj,rfl⟩:=List.mem_iff_getElem.1 hp
  rw[List.length_take] at hj
  rw[List.getElem_take,tlow_get hs (by omega)]
  simp;omega
 have hB:(T.drop (k+1)).filter (fun p=>tlow T p.1 == k)=[]:=by
  rw[List.filter_eq_nil_iff]
  intro p hp
  obtain⟨j,hj,rfl⟩:=List.mem_iff_getElem.1 hp
  rw[List.length_drop] at hj
  rw[List.getElem_drop,tlow_get hs (by omega)]
  simp;omega
 have hC:([T[k]]:Tb).filter (fun p=>tlow T p.1 == k)=[T[k]]:=by
  rw[List.filter_cons,tlow_get hs hk];simp
 have e2:(T.take k++([T[k]]++T.drop (k+1))).filter (fun p=>tlow T p.1 == k)=[T[k]]:=by rw[List.filter_append,List.filter_append,hA,hB,hC];rfl
 exact(congrArg (List.filter (fun p=>tlow T p.1 == k)) e).trans e2
theorem vAt_place {L:List Ln} {T:Tb} (hs:tsorted T) (hp:T.Perm (verts L)) {k:Nat} (hk:k < T.length):(vAt L k L.length).map (fun l=>(l.frm,l.n))=[T[k]]:=by
 have hlow:∀ a,low L a=tlow T a:=fun a=>by rw[tlow_perm hp,tlow_verts]
 have h1:(vAt L k L.length).map (fun l=>(l.frm,l.n))=(verts L).filter (fun p=>tlow T p.1 == k):=by
  unfold vAt verts
  rw[List.take_length,List.filter_map,List.filter_filter]
  congr 2
  funext l
  simp[vHit,hlow,Bool.and_comm]
 rw[h1]
 have h2:=hp.filter (fun p=>tlow T p.1 == k)
 rw[filter_place hs hk] at h2
 exact(List.singleton_perm.1 h2).symm
theorem vs_take {L:List Ln} {T:Tb} (hs:tsorted T) (hp:T.Perm (verts L)):∀ n,n≤T.length→(vs L n).map (fun l=>(l.frm,l.n))=T.take n:=by
 intro n
 induction n with
 | zero=>intro _;rfl
 | succ n ih =>
  intro hn
  rw[vs,List.map_append,ih (by omega),vAt_place hs hp (by omega)]
  exact(List.take_succ_eq_append_getElem (by omega)).symm
theorem vs_eq {L:List Ln} {T:Tb} (hs:tsorted T) (hp:T.Perm (verts L)):(vs L (nv L)).map (fun l=>(l.frm,l.n))=T:=by
 have hl:T.length=nv L:=by rw[hp.length_eq,verts_len]
 rw[vs_take hs hp _ (by omega),List.take_of_length_le (by omega)]
theorem filter_next {α : Type} (f : α→Nat) (a:Nat):∀ X:List α,X.Pairwise (fun x y=>f x≤f y)→X.filter (fun x=>decide (f x < a+1))=X.filter (fun x=>decide (f x < a))++X.filter (fun x=>f x == a):=by
 intro X
 induction X with
 | nil=>intro _;rfl
 | cons x t ih =>
  intro h
  have h2:=(List.pairwise_cons.1 h).1
  have:=ih (List.pairwise_cons.1 h).2
  rcases Nat.lt_trichotomy (f x) a with hx | hx | hx
  ·simp[List.filter_cons,hx,show f x < a+1 by omega,show ¬ f x=a by omega,this]
  ·have hn:t.filter (fun x=>decide (f x < a))=[]:=by
    rw[List.filter_eq_nil_iff];intro y hy;have:=h2 y hy;simp;omega
   rw[hn] at this
   simp[List.filter_cons,hx,hn,this]
  ·have hn:t.filter (fun x=>decide (f x < a))=[]:=by
    rw[List.filter_eq_nil_iff];intro y hy;have:=h2 y hy;simp;omega
   simp[List.filter_cons,show ¬ f x < a by omega,show ¬ f x < a+1 by omega,show ¬ f x=a by omega,hn,this]
def lexle (x y:Ed):Prop:=x.frm < y.frm∨(x.frm=y.frm∧x.to≤y.to)
def isKey (a b:Nat) (e:Ed):Bool:=e.frm == a && e.to == b
theorem eAt_key (L:List Ln) (a b:Nat):eAt L a b L.length=(edsOf L L).filter (isKey a b):=by
 unfold eAt edsOf
 rw[List.take_length,List.filter_map,List.filter_filter]
 have e:L.filter (eHit L a b)=L.filter (fun l=>(isKey a b ∘ fun l=>(⟨low L l.frm,low L l.to,l.n⟩:Ed)) l && l.edge):=by
  congr 1
  funext l
  simp[eHit,isKey,Bool.and_comm]
 rw[e]
 apply List.map_congr_left
 intro l hl
 have:=(List.mem_filter.1 hl).2
 simp[isKey] at this
 rw[this.1.1,this.1.2]
theorem es_of {L:List Ln} {n:Nat} {X:List Ed} (hs:X.Pairwise lexle) (hb:∀ x ∈ X,x.frm < n∧x.to < n) (hf:∀ a b,X.filter (isKey a b)=(edsOf L L).filter (isKey a b)):X=es L n n:=by
 have hs1:X.Pairwise (fun x y=>x.frm≤y.frm):=hs.imp (fun h=>by rcases h with h | h <;> omega)
 have hrow:∀ a b,(X.filter (fun x=>x.frm == a)).filter (fun x=>decide (x.to < b))=eRow L a b:=by
  intro a b
  have hs2:(X.filter (fun x=>x.frm == a)).Pairwise (fun x y=>x.to≤y.to):=by
   rw[List.pairwise_filter]
   refine hs.imp (fun h=>?_)
   intro hx hy
   simp at hx hy
   rcases h with h | h <;> omega
  induction b with
  | zero=>simp[eRow]
  | succ b ih =>
   rw[filter_next (fun x:Ed=>x.to) b _ hs2,ih,eRow,eAt_key,← hf]
   congr 1
   rw[List.filter_filter]
   congr 1
   funext x
   simp[isKey,Bool.and_comm]
 have hall:∀ a,X.filter (fun x=>decide (x.frm < a))=es L n a:=by
  intro a
  induction a with
  | zero=>simp[es]
  | succ a ih =>
   rw[filter_next (fun x:Ed=>x.frm) a _ hs1,ih,es,← hrow a n]
   congr 1
   rw[List.filter_filter]
   apply List.filter_congr
   intro x hx
   have:=(hb x hx).2
   simp[this]
 rw[← hall n,List.filter_eq_self.2]
 intro x hx
 simpa using (hb x hx).1
theorem eds_bd {L:List Ln} {T:Tb} (hs:tsorted T) (hp:T.Perm (verts L)) (hl:first (loose L) L.length=none):∀ x ∈ edsOf L L,x.frm < nv L∧x.to < nv L:=by
 have hlow:∀ a,low L a=tlow T a:=fun a=>by rw[tlow_perm hp,tlow_verts]
 have hhas:∀ a,hasV L L.length a=thas T a:=fun a=>by rw[thas_perm hp,hasV_all L _ (Nat.le_refl _)]
 have hlen:T.length=nv L:=by rw[hp.length_eq,verts_len]
 intro x hx
 obtain⟨l,hl1,rfl⟩:=List.mem_map.1 hx
 obtain⟨hm,hed⟩:=List.mem_filter.1 hl1
 obtain⟨i,hi,rfl⟩:=List.mem_iff_getElem.1 hm
 unfold first at hl
 rw[List.find?_eq_none] at hl
 have h0:=hl i (List.mem_range.2 hi)
 unfold loose at h0
 rw[List.getElem?_eq_getElem hi] at h0
 simp only[hed,Bool.true_and,hhas] at h0
 have h1:thas T (L[i]).frm=true∧thas T (L[i]).to=true:=by
  cases ha:thas T (L[i]).frm <;> cases hb:thas T (L[i]).to <;> simp[ha,hb] at h0 ⊢
 simp only[hlow]
 obtain⟨q1,_⟩:=(thas_at hs _).1 h1.1
 obtain⟨q2,_⟩:=(thas_at hs _).1 h1.2
 omega
end Go.Proofs.YteflnddphpjahaaGreatDoor.Sp
namespace Go.Proofs.YteflnddphpjahaaGreatDoor
def St (X Y:List Sp.Ed):Prop:=Y.length=X.length∧∀ a b,Y.filter (Sp.isKey a b)=X.filter (Sp.isKey a b)
theorem St.refl (X:List Sp.Ed):St X X:=⟨rfl,fun _ _=>rfl⟩
theorem St.trans {X Y Z:List Sp.Ed} (h:St X Y) (k:St Y Z):St X Z:=⟨k.1.trans h.1,fun a b=>(k.2 a b).trans (h.2 a b)⟩
def ltE (x y:Sp.Ed):Prop:=x.frm < y.frm∨(x.frm=y.frm∧x.to < y.to)
theorem ltE_iff (x y:Sp.Ed):cmpE x y < 0↔ltE x y:=cmpE_neg x y
theorem lexle_of_not {x y:Sp.Ed} (h:¬ ltE x y):Sp.lexle y x:=by unfold ltE at h;unfold Sp.lexle;omega
theorem lexle_of_lt {x y:Sp.Ed} (h:ltE x y):Sp.lexle x y:=by unfold ltE at h;unfold Sp.lexle;omega
theorem lexle_trans {x y z:Sp.Ed} (h:Sp.lexle x y) (k:Sp.lexle y z):Sp.lexle x z:=by unfold Sp.lexle at *;omega
theorem lexle_refl (x:Sp.Ed):Sp.lexle x x:=by unfold Sp.lexle;omega
theorem key_apart {x y:Sp.Ed} (h:ltE x y) (a b:Nat):¬ (Sp.isKey a b x=true∧Sp.isKey a b y=true):=by
 rintro⟨h1,h2⟩
 simp[Sp.isKey] at h1 h2
 unfold ltE at h;omega
theorem St_rot (A U V B:List Sp.Ed) (h:∀ u ∈ U,∀ v ∈ V,ltE v u):St (A++(U++(V++B))) (A++(V++(U++B))):=by
 refine⟨by simp;omega,fun a b=>?_⟩
 simp only[List.filter_append]
 have:U.filter (Sp.isKey a b)=[]∨V.filter (Sp.isKey a b)=[]:=by
  apply Decidable.byContradiction
  intro hn
  have h1:U.filter (Sp.isKey a b)≠[]:=fun e=>hn (Or.inl e)
  have h2:V.filter (Sp.isKey a b)≠[]:=fun e=>hn (Or.inr e)
  obtain⟨u,hu⟩:=List.exists_mem_of_ne_nil _ h1
  obtain⟨v,hv⟩:=List.exists_mem_of_ne_nil _ h2
  obtain⟨u1,u2⟩:=List.mem_filter.1 hu
  obtain⟨v1,v2⟩:=List.mem_filter.1 hv
  exact key_apart (h u u1 v v1) a b ⟨v2,u2⟩
 rcases this with e | e <;> rw[e] <;> simp
theorem sw_adj (A B:List Sp.Ed) (x y:Sp.Ed):sw (A++(x :: y :: B)) (A.length+1) A.length=A++(y :: x :: B):=by
 apply List.ext_getElem?
 intro t
 rw[sw_get _ _ _ (by simp) (by simp)]
 by_cases c1:t=A.length
 ·subst c1;simp
 ·rw[if_neg c1]
  by_cases c2:t=A.length+1
  ·subst c2;simp
  ·rw[if_neg c2]
   by_cases c3:t < A.length
   ·rw[List.getElem?_append_left c3,List.getElem?_append_left c3]
   ·rw[List.getElem?_append_right (by omega),List.getElem?_append_right (by omega)]
    obtain⟨k,hk⟩:∃ k,t - A.length=k+2:=⟨t - A.length - 2,by omega⟩
    rw[hk];rfl
theorem cut2 (X:List Sp.Ed) (j:Nat) (hj:j+1 < X.length):X=X.take j++(X[j] :: X[j+1] :: X.drop (j+2)):=by
 rw[← List.drop_eq_getElem_cons hj,← List.drop_eq_getElem_cons (by omega),List.take_append_drop]
theorem St_sw (X:List Sp.Ed) (j:Nat) (hj:j+1 < X.length) (h:ltE X[j+1] X[j]):St X (sw X (j+1) j):=by
 have e:=cut2 X j hj
 have hl:(X.take j).length=j:=by simp;omega
 have e2:=sw_adj (X.take j) (X.drop (j+2)) X[j] X[j+1]
 rw[hl,← e] at e2
 rw[e2]
 have:=St_rot (X.take j) [X[j]] [X[j+1]] (X.drop (j+2)) (by simpa using h)
 simp only[List.cons_append,List.nil_append] at this
 rw[← e] at this
 exact this
def Ord (X:List Sp.Ed) (a b:Nat):Prop := ∀ s t x y,a≤s→s < t→t < b→X[s]? = some x→X[t]? = some y→Sp.lexle x y
def OrdBut (X:List Sp.Ed) (a b j:Nat):Prop := ∀ s t x y,a≤s→s < t→t < b→t≠j→X[s]? = some x→X[t]? = some y→Sp.lexle x y
theorem ord_but {X:List Sp.Ed} {a i:Nat} (h:Ord X a i):OrdBut X a (i+1) i:=fun s t x y h1 h2 h3 h4=>h s t x y h1 h2 (by omega)
theorem but_ord {X:List Sp.Ed} {a b j:Nat} (h:OrdBut X a b j) (he:j≤a∨∃ p,p+1=j∧∃ x y,X[p]? = some x∧X[j]? = some y∧¬ ltE y x):Ord X a b:=by
 intro s t x y h1 h2 h3 hx hy
 by_cases ht:t=j
 ·rcases he with he | ⟨p,hp,x',y',hx',hy',hn⟩
  ·omega
  ·subst ht
   rw[hy] at hy'
   injection hy' with hy'
   subst hy'
   by_cases hs:s=p
   ·subst hs
    rw[hx] at hx'
    injection hx' with hx'
    subst hx'
    exact lexle_of_not hn
   ·exact lexle_trans (h s p x x' h1 (by omega) (by omega) (by omega) hx hx') (lexle_of_not hn)
 ·exact h s t x y h1 h2 h3 ht hx hy
theorem but_step {X:List Sp.Ed} {a b j:Nat} (h:OrdBut X a b (j+1)) (haj:a≤j) (hjb:j+1 < b) (hj:j+1 < X.length) (hlt:ltE X[j+1] X[j]):OrdBut (sw X (j+1) j) a b j:=by
 intro s t x y h1 h2 h3 h4 hx hy
 rw[sw_get _ _ _ hj (by omega)] at hx hy
 rw[if_neg h4] at hy
 have g1:X[j+1]? = some X[j+1]:=List.getElem?_eq_getElem hj
 have g0:X[j]? = some X[j]:=List.getElem?_eq_getElem (by omega)
 by_cases t1:t=j+1
 ·rw[if_pos t1,g0] at hy
  injection hy with hy
  subst hy
  by_cases s0:s=j
  ·rw[if_pos s0,g1] at hx
   injection hx with hx
   subst hx
   exact lexle_of_lt hlt
  ·rw[if_neg s0,if_neg (by omega)] at hx
   exact h s j _ _ h1 (by omega) (by omega) (by omega) hx g0
 ·rw[if_neg t1] at hy
  by_cases s0:s=j
  ·rw[if_pos s0,g1] at hx
   injection hx with hx
   subst hx
   exact h (j+1) t _ _ (by omega) (by omega) h3 t1 g1 hy
  ·rw[if_neg s0] at hx
   by_cases s1:s=j+1
   ·rw[if_pos s1,g0] at hx
    injection hx with hx
    subst hx
    exact h j t _ _ haj (by omega) h3 t1 g0 hy
   ·rw[if_neg s1] at hx
    exact h s t _ _ h1 h2 h3 t1 hx hy
open Go.RowKit
def SrtPost (g cap B N a b:Nat) (X:List Sp.Ed) (w:World) (e:Ending) (w':World):Prop :=
 e = .returned (.tuple #[])∧∃ Y,w'.ownsRow B 67 3 (.slice (some ⟨g,0,none⟩) N cap) N (edCells Y)∧w.grownBy w' (some g)∧St X Y∧Ord Y a b∧∀ t,t < a∨b≤t→Y[t]? = X[t]?
theorem insertion_any (g cap B a b N:Nat) (X:List Sp.Ed) (w:World) (hX:X.length=N) (h:w.ownsRow B 67 3 (.slice (some ⟨g,0,none⟩) N cap) N (edCells X)) (hab:a≤b) (hb:b≤N) (hl:N≤5000) :
  Calls Tryz.prog 251 #[.slice (some ⟨g,0,none⟩) N cap,.int .i64 a,.int .i64 b,.func (.func 118) #[] #[]] w (SrtPost g cap B N a b X w):=by
 have HX:=hde hX
 clear hX
 go_enter Tryz.func251,Tryz.ntmps251
 go_wp2
 go_loopw [8] (fun u wr=>∃ (i:Nat) (Y:List Sp.Ed),u = .int .i64 i∧a < i∧(i≤b∨i=a+1)∧wr.ownsRow B 67 3 (.slice (some ⟨g,0,none⟩) N cap) N (edCells Y)∧w.grownBy wr (some g)∧Hid (Y.length=N)∧Hid (St X Y)∧Hid (Ord Y a i)∧Hid (∀ t,t < a∨b≤t→Y[t]? = X[t]?)) (fun u _=>b+1 - (intOf u).toNat)
 case atStart=>exact⟨a+1,X,by go_num,by omega,Or.inr rfl,h,grown_refl _ _,HX,St.refl _,fun s t x y h1 h2 h3=>by omega,fun t _=>rfl⟩
 case round =>
  obtain⟨i,Y,rfl,hai,hib,ho,hgr,HY,HST,HOR,HOUT⟩:=hrel
  by_cases hlt:i < b
  ·have hltz:(i:Int) < (b:Int):=by omega
   go_wp2
   go_loopw [9] (fun u wr2=>∃ (j:Nat) (Z:List Sp.Ed),u = .int .i64 j∧a≤j∧j≤i∧wr2.ownsRow B 67 3 (.slice (some ⟨g,0,none⟩) N cap) N (edCells Z)∧w.grownBy wr2 (some g)∧Hid (Z.length=N)∧Hid (St X Z)∧Hid (OrdBut Z a (i+1) j)∧Hid (∀ t,t < a∨b≤t→Z[t]? = X[t]?)) (fun u _=>(intOf u).toNat)
   case atStart=>exact⟨i,Y,rfl,by omega,Nat.le_refl _,ho,hgr,HY,HST,ord_but (uh HOR),HOUT⟩
   case round =>
    obtain⟨j,Z,rfl,haj,hji,ho2,hgr2,HZ,HST2,HOR2,HOUT2⟩:=hrel
    clear ho hgr
    by_cases hja:a < j
    ·obtain⟨q,HQ⟩:∃ q,Hid (j=q+1):=⟨j - 1,by show _=_;omega⟩
     have hqj:q < j:=by have:=uh HQ;omega
     have haq:a≤q:=by have:=uh HQ;omega
     have hjN:j < N:=by omega
     have hjaz:(a:Int) < (j:Int):=by omega
     have hq1:(j:Int) < (N:Int):=by omega
     have hq0:(q:Int) < (N:Int):=by omega
     have p0:(0:Int)≤(j:Int):=by omega
     have p1:(0:Int)≤(q:Int):=by omega
     have hw2:IntKind.i64.wrap ((j:Int) - 1)=(q:Int):=by have:=uh HQ;rw[IntKind.wrap_i64];omega
     obtain⟨x1,x0,⟨c0,c1,c2⟩,⟨d0,d1,d2⟩,_,HXX⟩:=own_sw (uh HZ) ho2 j q (by omega) (by omega)
     obtain⟨c,hc⟩:∃ c,cmpE x1 x0=c:=⟨_,rfl⟩
     have HC:=hde hc
     have HLT:=hde (ltE_iff x1 x0)
     rw[hc] at HLT
     clear hc
     have hgz:g < wr.heap.size:=World.block_lt_of_cell? _ _ c0
     by_cases hneg:c < 0
     ·go_wp2_with fail
      go_region_held3 (fun w'=>(w'.cell? ⟨g,j * 3,none⟩=some (.int .i64 (x1.frm:Int))∧w'.cell? ⟨g,j * 3+1,none⟩=some (.int .i64 (x1.to:Int))∧w'.cell? ⟨g,j * 3+2,none⟩=some (.int .i64 x1.n))∧(w'.cell? ⟨g,q * 3,none⟩=some (.int .i64 (x0.frm:Int))∧w'.cell? ⟨g,q * 3+1,none⟩=some (.int .i64 (x0.to:Int))∧w'.cell? ⟨g,q * 3+2,none⟩=some (.int .i64 x0.n)))
       (first | (go_keep;done) | (exact⟨⟨(hb2.cell (p:=⟨g,_,none⟩) hgz).trans c0,(hb2.cell (p:=⟨g,_,none⟩) hgz).trans c1,(hb2.cell (p:=⟨g,_,none⟩) hgz).trans c2⟩,⟨(hb2.cell (p:=⟨g,_,none⟩) hgz).trans d0,(hb2.cell (p:=⟨g,_,none⟩) hgz).trans d1,(hb2.cell (p:=⟨g,_,none⟩) hgz).trans d2⟩⟩))
       (first | (go_at_call 118;refine(edgeCmp_any x1 x0 _).mono ?_;rintro e w2 ⟨rfl,hb2⟩;rw[uh HC]))
      have hb3:Below wr.heap.size wr w2:=(Below.refl _ _).drew.trans hb2
      have ho3:=obl ho2 hb3
      have f0:=own_frozen ho3 (j * 3)
      have f1:=own_frozen ho3 (j * 3+1)
      have f2:=own_frozen ho3 (j * 3+2)
      have f3:=own_frozen ho3 (q * 3)
      have f4:=own_frozen ho3 (q * 3+1)
      have f5:=own_frozen ho3 (q * 3+2)
      obtain⟨z1,z0,⟨r0,r1,r2⟩,⟨s0,s1,s2⟩,HO,HZZ⟩:=own_sw (uh HZ) ho3 j q (by omega) (by omega)
      have HG3:=hde (grown_trans hgr2 (grown_below hb3))
      obtain rfl:z1=x1:=by have h1:=(uh HXX).1;rw[(uh HZZ).1] at h1;injection h1
      obtain rfl:z0=x0:=by have h1:=(uh HXX).2;rw[(uh HZZ).2] at h1;injection h1
      have HL:Hid (ltE z1 z0):=(uh HLT).1 hneg
      clear hb2 hb3 ho2 ho3 c0 c1 c2 d0 d1 d2 hgr2
      go_wp2_with fail
      go_region
      go_wp2
      go_roundw
      case rel =>
       have hjq:=uh HQ
       subst hjq
       have hq:q+1 < Z.length:=by rw[uh HZ];omega
       have e1:Z[q+1]=z1:=by have:=(uh HZZ).1;rw[List.getElem?_eq_getElem hq] at this;injection this
       have e2:Z[q]=z0:=by have:=(uh HZZ).2;rw[List.getElem?_eq_getElem (by omega)] at this;injection this
       refine⟨q,sw Z (q+1) q,by go_num,by omega,by omega,(uh HO).1,grown_trans (uh HG3) (uh HO).2,by show _=_;rw[sw_len];exact uh HZ,(uh HST2).trans (St_sw Z q hq (by rw[e1,e2];exact uh HL)),but_step (uh HOR2) (by omega) (by omega) hq (by rw[e1,e2];exact uh HL),?_⟩
       intro t ht
       rw[sw_get _ _ _ hq (by omega),if_neg (by omega),if_neg (by omega)]
       exact(uh HOUT2) t ht
      case measure=>have:=uh HQ;simp[intOf];omega
     ·go_wp2_with fail
      go_region_held3 (fun w'=>(w'.cell? ⟨g,j * 3,none⟩=some (.int .i64 (x1.frm:Int))∧w'.cell? ⟨g,j * 3+1,none⟩=some (.int .i64 (x1.to:Int))∧w'.cell? ⟨g,j * 3+2,none⟩=some (.int .i64 x1.n))∧(w'.cell? ⟨g,q * 3,none⟩=some (.int .i64 (x0.frm:Int))∧w'.cell? ⟨g,q * 3+1,none⟩=some (.int .i64 (x0.to:Int))∧w'.cell? ⟨g,q * 3+2,none⟩=some (.int .i64 x0.n)))
       (first | (go_keep;done) | (exact⟨⟨(hb2.cell (p:=⟨g,_,none⟩) hgz).trans c0,(hb2.cell (p:=⟨g,_,none⟩) hgz).trans c1,(hb2.cell (p:=⟨g,_,none⟩) hgz).trans c2⟩,⟨(hb2.cell (p:=⟨g,_,none⟩) hgz).trans d0,(hb2.cell (p:=⟨g,_,none⟩) hgz).trans d1,(hb2.cell (p:=⟨g,_,none⟩) hgz).trans d2⟩⟩))
       (first | (go_at_call 118;refine(edgeCmp_any x1 x0 _).mono ?_;rintro e w2 ⟨rfl,hb2⟩;rw[uh HC]))
      have hb3:Below wr.heap.size wr w2:=(Below.refl _ _).drew.trans hb2
      go_wp2
      go_roundw
      case rel=>exact⟨i+1,Z,by go_num,by omega,by omega,obl ho2 hb3,grown_trans hgr2 (grown_below hb3),HZ,HST2,but_ord (uh HOR2) (Or.inr ⟨q,(uh HQ).symm,x0,x1,(uh HXX).2,(uh HXX).1,fun hq=>(Int.not_lt.2 hneg) ((uh HLT).2 hq)⟩),HOUT2⟩
      case measure=>simp[intOf];omega
    ·have hjaz:¬ (a:Int) < (j:Int):=by omega
     have hjd:decide ((a:Int) < (j:Int))=false:=decide_eq_false hjaz
     go_wp2_with fail
     go_quiet (fail)
     go_wp2
     go_roundw
     case rel=>exact⟨i+1,Z,by go_num,by omega,by omega,obl ho2 (below_drewN _ _),grown_trans hgr2 (grown_below (below_drewN _ _)),HZ,HST2,but_ord (uh HOR2) (Or.inl (by omega)),HOUT2⟩
     case measure=>simp[intOf];omega
  ·go_wp2
   go_end0
   exact⟨rfl,Y,ho,hgr,uh HST,fun s t x y h1 h2 h3=>(uh HOR) s t x y h1 h2 (by omega),uh HOUT⟩
end Go.Proofs.YteflnddphpjahaaGreatDoor
