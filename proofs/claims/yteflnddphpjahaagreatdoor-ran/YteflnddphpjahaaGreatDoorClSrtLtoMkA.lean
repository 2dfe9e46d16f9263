import Derived.Test.YteflnddphpjahaaGreatDoorClSrtEtoSrtG
import Derived.Test.YteflnddphpjahaaGreatDoorClSrtK
import Derived.Test.YteflnddphpjahaaGreatDoorClCqItoCqN
import Derived.Test.YteflnddphpjahaaGreatDoorClRrAtoCqT
import Derived.Test.YteflnddphpjahaaGreatDoorClCqQtoCqM
import Derived.Test.YteflnddphpjahaaGreatDoorClRnOtoRnQ
import Derived.Test.YteflnddphpjahaaGreatDoorClEvEtoRfA
import Derived.RangeFuncNested
import Derived.RangeFuncBound
import Derived.RangeFuncCalls
import Derived.RangeFuncLeaves
import Derived.RangeFuncBox
import Derived.Maps.AppendAt
import Derived.Shelf.Abstract
import Derived.Shelf.RegionOpen
import Derived.WalkKit
import Derived.OwnWalkIn
import Derived.TacticsInMore
import Derived.LoopNIn
import Derived.LoopIn
import Derived.Test.YteflnddphpjahaaGreatDoorClTabDtoSrtA
set_option linter.unusedVariables false
set_option linter.unusedSimpArgs false
set_option maxRecDepth 100000
set_option maxHeartbeats 16000000
namespace Go.Proofs.YteflnddphpjahaaGreatDoor
open Go.RowKit
def Done (Y:List Sp.Ed) (s p:Nat):Prop := ∀ C:Nat→Prop,C 0→(∀ q,C q→Ord Y q (q+s)→C (q+s))→C p
theorem Done.zero {Y:List Sp.Ed} {s:Nat}:Done Y s 0:=fun _ h _=>h
theorem Done.step {Y:List Sp.Ed} {s p:Nat} (h:Done Y s p) (o:Ord Y p (p+s)):Done Y s (p+s):=fun C h0 h1=>h1 p (h C h0 h1) o
def Bl (Y:List Sp.Ed) (s n p:Nat):Prop := ∀ C:Nat→Prop,(∀ q,n≤q+s→Ord Y q n→C q)→(∀ q,q+s≤n→Ord Y q (q+s)→C (q+s)→C q)→C p
theorem Bl.last {Y:List Sp.Ed} {s n p:Nat} (h:n≤p+s) (o:Ord Y p n):Bl Y s n p:=fun _ h1 _=>h1 p h o
theorem Bl.more {Y:List Sp.Ed} {s n p:Nat} (h:p+s≤n) (o:Ord Y p (p+s)) (b:Bl Y s n (p+s)):Bl Y s n p:=fun C h1 h2=>h2 p h o (b C h1 h2)
theorem Bl.inv {Y:List Sp.Ed} {s n p:Nat} (h:Bl Y s n p):(n≤p+s∧Ord Y p n)∨(p+s≤n∧Ord Y p (p+s)∧Bl Y s n (p+s)):=
 h (fun p=>(n≤p+s∧Ord Y p n)∨(p+s≤n∧Ord Y p (p+s)∧Bl Y s n (p+s))) (fun q h1 h2=>Or.inl ⟨h1,h2⟩) fun q h1 h2 h3=>Or.inr ⟨h1,h2,h3.elim (fun e=>.last e.1 e.2) (fun e=>.more e.1 e.2.1 e.2.2)⟩
theorem ord_same {Y Z:List Sp.Ed} {a b:Nat} (h:Ord Y a b) (k:∀ t,a≤t→t < b→Z[t]? = Y[t]?):Ord Z a b:=by
 intro s t x y h1 h2 h3 hx hy
 rw[k s (by omega) (by omega)] at hx;rw[k t (by omega) (by omega)] at hy
 exact h _ _ _ _ h1 h2 h3 hx hy
theorem Done.same {Y Z:List Sp.Ed} {s p:Nat} (h:Done Y s p) (k:∀ t,t < p→Z[t]? = Y[t]?):Done Z s p :=
 h (fun p=>(∀ t,t < p→Z[t]? = Y[t]?)→Done Z s p) (fun _=>.zero) (fun q ih o k=>.step (ih (fun t ht=>k t (by omega))) (ord_same o (fun t _ ht=>k t ht))) k
theorem Bl.same {Y Z:List Sp.Ed} {s n p:Nat} (h:Bl Y s n p) (k:∀ t,p≤t→Z[t]? = Y[t]?):Bl Z s n p :=
 h (fun p=>(∀ t,p≤t→Z[t]? = Y[t]?)→Bl Z s n p) (fun q h1 h2 k=>.last h1 (ord_same h2 (fun t ht _=>k t ht))) (fun q h1 h2 ih k=>.more h1 (ord_same h2 (fun t ht _=>k t ht)) (ih (fun t ht=>k t (by omega)))) k
theorem Done.bl {Y:List Sp.Ed} {s n p:Nat} (h:Done Y s p) (hp:p≤n) (k:Bl Y s n p):Bl Y s n 0 :=
 h (fun p=>p≤n→Bl Y s n p→Bl Y s n 0) (fun _ k=>k) (fun q ih o hp k=>ih (by omega) (.more hp o k)) hp k
theorem Bl.fin {Y:List Sp.Ed} {s n p:Nat} (h:Bl Y s n p) (hp:n≤p+s):Ord Y p n:=by
 rcases h.inv with ⟨h1,h2⟩ | ⟨h1,h2,h3⟩
 ·exact h2
 ·rw[show n=p+s by omega];exact h2
theorem Bl.two {Y:List Sp.Ed} {s n p:Nat} (h:Bl Y s n p) (hs:0 < s) (hp:p+2 * s≤n):Ord Y p (p+s)∧Ord Y (p+s) (p+2 * s)∧Bl Y s n (p+2 * s):=by
 rcases h.inv with ⟨h1,h2⟩ | ⟨h1,h2,h3⟩
 ·omega
 ·refine⟨h2,?_⟩
  rcases h3.inv with ⟨k1,k2⟩ | ⟨k1,k2,k3⟩
  ·obtain rfl:n=p+2 * s:=by omega
   exact⟨k2,.last (by omega) (fun a b x y e1 e2 e3=>by omega)⟩
  ·rw[show p+s+s=p+2 * s by omega] at k2 k3
   exact⟨k2,k3⟩
theorem Bl.one {Y:List Sp.Ed} {s n p:Nat} (h:Bl Y s n p) (hp:p+s < n) (hp2:n < p+2 * s):Ord Y p (p+s)∧Ord Y (p+s) n:=by
 rcases h.inv with ⟨h1,h2⟩ | ⟨h1,h2,h3⟩
 ·omega
 ·exact⟨h2,h3.fin (by omega)⟩
theorem insertion_at (g cap B a b N:Nat) (a' b':Int) (X:List Sp.Ed) (w:World) (ha:a'=(a:Int)) (hb':b'=(b:Int)) (hX:X.length=N) (h:w.ownsRow B 67 3 (.slice (some ⟨g,0,none⟩) N cap) N (edCells X)) (hab:a≤b) (hb:b≤N) (hl:N≤5000) :
  Calls Tryz.prog 251 #[.slice (some ⟨g,0,none⟩) N cap,.int .i64 a',.int .i64 b',.func (.func 118) #[] #[]] w (SrtPost g cap B N a b X w):=by
 subst ha hb'
 exact insertion_any g cap B a b N X w hX h hab hb hl
theorem symMerge_at (g cap B a m b N:Nat) (a' m' b':Int) (X:List Sp.Ed) (w:World) (ha:a'=(a:Int)) (hm:m'=(m:Int)) (hb':b'=(b:Int)) (hX:X.length=N) (h:w.ownsRow B 67 3 (.slice (some ⟨g,0,none⟩) N cap) N (edCells X)) (ham:a < m) (hmb:m < b) (hb:b≤N) (hl:N≤5000) (h1:Ord X a m) (h2:Ord X m b) :
  Calls Tryz.prog 252 #[.slice (some ⟨g,0,none⟩) N cap,.int .i64 a',.int .i64 m',.int .i64 b',.func (.func 118) #[] #[]] w (SymPost g cap B N a b X w):=by
 subst ha hm hb'
 exact symMerge_any g cap B N hl _ a m b X w nlr hX h ham hmb hb h1 h2
def StPost (g cap B N:Nat) (X:List Sp.Ed) (w:World) (e:Ending) (w':World):Prop :=
 e = .returned (.tuple #[])∧∃ Y,w'.ownsRow B 67 3 (.slice (some ⟨g,0,none⟩) N cap) N (edCells Y)∧w.grownBy w' (some g)∧St X Y∧Ord Y 0 N
theorem stable_any (g cap B N:Nat) (X:List Sp.Ed) (w:World) (hX:X.length=N) (h:w.ownsRow B 67 3 (.slice (some ⟨g,0,none⟩) N cap) N (edCells X)) (hl:N≤5000) :
  Calls Tryz.prog 170 #[.slice (some ⟨g,0,none⟩) N cap,.int .i64 N,.func (.func 118) #[] #[]] w (StPost g cap B N X w):=by
 have HX:=hde hX
 clear hX
 go_enter Tryz.func170,Tryz.ntmps170
 go_wp2
 go_loopw [7,8] (fun u v wr=>∃ (a:Nat) (Y:List Sp.Ed),u = .int .i64 a∧v = .int .i64 ((a+20:Nat):Int)∧a≤N∧wr.ownsRow B 67 3 (.slice (some ⟨g,0,none⟩) N cap) N (edCells Y)∧w.grownBy wr (some g)∧Hid (Y.length=N)∧Hid (St X Y)∧Hid (Done Y 20 a)) (fun u _ _=>N - (intOf u).toNat)
 case atStart=>exact⟨0,X,rfl,rfl,Nat.zero_le _,h,grown_refl _ _,HX,St.refl _,.zero⟩
 case round =>
  obtain⟨a,Y,rfl,rfl,haN,ho,hgr,HY,HST,HD⟩:=hrel
  clear h
  by_cases hlt:a+20≤N
  ·have hltz:(a:Int)+20≤(N:Int):=by omega
   go_wp2_with (go_at_call 251;refine(insertion_at g cap B a (a+20) N _ _ Y _ (by omega) (by omega) (uh HY) ho (by omega) (by omega) hl).mono ?_;rintro e w2 ⟨rfl,Z,ho2,hg2,hS2,hO2,hU2⟩;have HS2:=hde hS2;have HO2:=hde hO2;have HU2:=hde hU2;clear hS2 hO2 hU2)
   go_roundw
   case rel=>exact⟨a+20,Z,by go_num,by go_num,by omega,ho2,grown_trans hgr hg2,(uh HS2).1.trans (uh HY),(uh HST).trans (uh HS2),.step ((uh HD).same (fun t ht=>(uh HU2) t (Or.inl ht))) (uh HO2)⟩
   case measure=>simp[intOf];omega
  ·have hltz:¬ (a:Int)+20≤(N:Int):=by omega
   go_wp2_with (go_at_call 251;refine(insertion_at g cap B a N N _ _ Y _ (by omega) (by omega) (uh HY) ho (by omega) (by omega) hl).mono ?_;rintro e w2 ⟨rfl,Z,ho2,hg2,hS2,hO2,hU2⟩;have HS2:=hde hS2;have HO2:=hde hO2;have HU2:=hde hU2;clear hS2 hO2 hU2)
   have HB:Hid (Bl Z 20 N 0):=((uh HD).same (fun t ht=>(uh HU2) t (Or.inl ht))).bl haN (.last (by omega) (uh HO2))
   have HS3:=hde ((uh HST).trans (uh HS2))
   have HZl:Hid (Z.length=N):=(uh HS2).1.trans (uh HY)
   have hgw:=grown_trans hgr hg2
   clear HO2 HU2 HS2 HD ho hgr HY HST hltz hlt haN hg2
   go_loopw [6] (fun u wr=>∃ (s:Nat) (Y:List Sp.Ed),u = .int .i64 s∧20≤s∧s≤20000∧wr.ownsRow B 67 3 (.slice (some ⟨g,0,none⟩) N cap) N (edCells Y)∧w.grownBy wr (some g)∧Hid (Y.length=N)∧Hid (St X Y)∧Hid (Bl Y s N 0)) (fun u _=>20000 - (intOf u).toNat)
   case atStart=>exact⟨20,Z,rfl,Nat.le_refl _,by omega,ho2,hgw,HZl,HS3,HB⟩
   case round =>
    obtain⟨s,Y,rfl,hs20,hsm,ho,hgr,HY,HST,HB⟩:=hrel
    clear ho2 hgw HZl HS3
    by_cases hlt:s < N
    ·have hltz:(s:Int) < (N:Int):=by omega
     have hw1:IntKind.i64.wrap (2 * (s:Int))=2 * (s:Int):=by rw[IntKind.wrap_i64];omega
     have hw2:IntKind.i64.wrap ((s:Int) * 2)=(s:Int) * 2:=by rw[IntKind.wrap_i64];omega
     go_wp2
     go_loopw [7,8] (fun u v wr2=>∃ (a:Nat) (Z:List Sp.Ed),u = .int .i64 a∧v = .int .i64 ((a+2 * s:Nat):Int)∧a≤N∧wr2.ownsRow B 67 3 (.slice (some ⟨g,0,none⟩) N cap) N (edCells Z)∧w.grownBy wr2 (some g)∧Hid (Z.length=N)∧Hid (St X Z)∧Hid (Done Z (2 * s) a)∧Hid (Bl Z s N a)) (fun u _ _=>N - (intOf u).toNat)
     case atStart=>exact⟨0,Y,rfl,by go_num,Nat.zero_le _,ho,hgr,HY,HST,.zero,HB⟩
     case round =>
      obtain⟨a,Z,rfl,rfl,haN,ho2,hg2,HZ,HST2,HD,HB2⟩:=hrel
      clear ho hgr
      have hw3:IntKind.i64.wrap ((a:Int)+(s:Int))=(a:Int)+(s:Int):=by rw[IntKind.wrap_i64];omega
      by_cases hlt2:a+2 * s≤N
      ·have hlt2z:(a:Int)+2 * (s:Int)≤(N:Int):=by omega
       have HT:=hde ((uh HB2).two (by omega) hlt2)
       go_wp2_with (go_at_call 252;refine(symMerge_at g cap B a (a+s) (a+2 * s) N _ _ _ Z _ (by omega) (by omega) (by omega) (uh HZ) ho2 (by omega) (by omega) (by omega) hl (uh HT).1 (uh HT).2.1).mono ?_;rintro e w3 ⟨rfl,Z',ho3,hg3,hM3⟩;have HM3:=hde hM3;clear hM3)
       go_roundw
       case rel=>exact⟨a+2 * s,Z',by go_num,by go_num,by omega,ho3,grown_trans hg2 hg3,(uh HM3).1.1.trans (uh HZ),(uh HST2).trans (uh HM3).1,.step ((uh HD).same (fun t ht=>(uh HM3).2.2.1 t (Or.inl ht))) (uh HM3).2.1,(uh HT).2.2.same (fun t ht=>(uh HM3).2.2.1 t (Or.inr ht))⟩
       case measure=>simp[intOf];omega
      ·have hlt2z:¬ (a:Int)+2 * (s:Int)≤(N:Int):=by omega
       by_cases hlt3:a+s < N
       ·have hlt3z:(a:Int)+(s:Int) < (N:Int):=by omega
        have HT:=hde ((uh HB2).one hlt3 (by omega))
        go_wp2_with (go_at_call 252;refine(symMerge_at g cap B a (a+s) N N _ _ _ Z _ (by omega) (by omega) (by omega) (uh HZ) ho2 (by omega) (by omega) (by omega) hl (uh HT).1 (uh HT).2).mono ?_;rintro e w3 ⟨rfl,Z',ho3,hg3,hM3⟩;have HM3:=hde hM3;clear hM3)
        go_roundw
        case rel=>exact⟨2 * s,Z',by go_num,by omega,by omega,ho3,grown_trans hg2 hg3,(uh HM3).1.1.trans (uh HZ),(uh HST2).trans (uh HM3).1,((uh HD).same (fun t ht=>(uh HM3).2.2.1 t (Or.inl ht))).bl haN (.last (by omega) (uh HM3).2.1)⟩
        case measure=>simp[intOf];omega
       ·have hlt3z:¬ (a:Int)+(s:Int) < (N:Int):=by omega
        go_wp2
        go_roundw
        case rel=>exact⟨2 * s,Z,by go_num,by omega,by omega,ho2,hg2,HZ,HST2,(uh HD).bl haN (.last (by omega) ((uh HB2).fin (by omega)))⟩
        case measure=>simp[intOf];omega
    ·have hltz:¬ (s:Int) < (N:Int):=by omega
     go_wp2
     go_end0
     exact⟨rfl,Y,ho,hgr,uh HST,(uh HB).fin (by omega)⟩
theorem sortStable_any (g cap B N:Nat) (X:List Sp.Ed) (w:World) (hX:X.length=N) (h:w.ownsRow B 67 3 (.slice (some ⟨g,0,none⟩) N cap) N (edCells X)) (hl:N≤5000) :
  Calls Tryz.prog 117 #[.slice (some ⟨g,0,none⟩) N cap,.func (.func 118) #[] #[]] w (StPost g cap B N X w):=by
 have HX:=hde hX
 clear hX
 go_enter Tryz.func117,Tryz.ntmps117
 go_wp2_with (go_at_call 170;refine(stable_any g cap B N X _ (uh HX) h hl).mono ?_;rintro e w2 ⟨rfl,hq⟩)
 go_end0
 exact⟨rfl,hq⟩
theorem insertion_nil (fv:Value) (w:World):Calls Tryz.prog 251 #[.slice none 0 0,.int .i64 0,.int .i64 0,fv] w fun e w'=>e = .returned (.tuple #[])∧w'=w:=by
 go_enter Tryz.func251,Tryz.ntmps251
 go_wp2
 refine wp_loop_rounds 1 ?_
 rw[rounds_succ]
 go_wp2
 go_end0
 exact⟨rfl,rfl⟩
theorem stable_nil (fv:Value) (w:World):Calls Tryz.prog 170 #[.slice none 0 0,.int .i64 0,fv] w fun e w'=>e = .returned (.tuple #[])∧w'=w:=by
 go_enter Tryz.func170,Tryz.ntmps170
 go_wp2
 refine wp_loop_rounds 1 ?_
 rw[rounds_succ]
 go_wp2_with (go_at_call 251;refine(insertion_nil _ _).mono ?_;rintro e w2 ⟨rfl,hw⟩;obtain rfl:=hw.symm)
 refine wp_loop_rounds 1 ?_
 rw[rounds_succ]
 go_wp2
 go_end0
 exact⟨rfl,rfl⟩
theorem sortStable_nil (fv:Value) (w:World):Calls Tryz.prog 117 #[.slice none 0 0,fv] w fun e w'=>e = .returned (.tuple #[])∧w'=w:=by
 go_enter Tryz.func117,Tryz.ntmps117
 go_wp2_with (go_at_call 170;refine(stable_nil _ _).mono ?_;rintro e w2 ⟨rfl,hw⟩;obtain rfl:=hw.symm)
 go_end0
 exact⟨rfl,rfl⟩
theorem sortEdges (B N:Nat) (v:Value) (X:List Sp.Ed) (w:World) (hX:X.length=N) (h:w.ownsRow B 67 3 v N (edCells X)) (hl:N≤5000) :
  Calls Tryz.prog 117 #[v,.func (.func 118) #[] #[]] w fun e w'=>e = .returned (.tuple #[])∧∃ Y,w'.ownsRow B 67 3 v N (edCells Y)∧w.grownBy w' v.ownBlock∧St X Y∧Ord Y 0 N:=by
 rcases h.2 with ⟨hv,hn⟩ | ⟨g,cap,cur,hv,_⟩
 ·subst hv hn
  refine(sortStable_nil _ w).mono ?_
  rintro e w' ⟨rfl,rfl⟩
  exact⟨rfl,X,h,grown_refl _ _,St.refl _,fun s t x y e1 e2 e3=>by omega⟩
 ·subst hv
  exact sortStable_any g cap B N X w hX h hl
theorem ord_pairwise {Y:List Sp.Ed} (h:Ord Y 0 Y.length):Y.Pairwise Sp.lexle:=by
 rw[List.pairwise_iff_getElem]
 intro i j hi hj hij
 exact h i j _ _ (Nat.zero_le _) hij hj (List.getElem?_eq_getElem hi) (List.getElem?_eq_getElem hj)
theorem es_done {L:List Sp.Ln} {T:Sp.Tb} {Y:List Sp.Ed} (hs:Sp.tsorted T) (hp:T.Perm (Sp.verts L)) (hl:Sp.first (Sp.loose L) L.length=none) (hSt:St (Sp.edsOf L L) Y) (hO:Ord Y 0 (Sp.edsOf L L).length):Y=Sp.es L (Sp.nv L) (Sp.nv L):=by
 refine Sp.es_of (ord_pairwise (by rw[hSt.1];exact hO)) ?_ hSt.2
 intro x hx
 have h1:x ∈ Y.filter (Sp.isKey x.frm x.to):=List.mem_filter.2 ⟨hx,by simp[Sp.isKey]⟩
 rw[hSt.2] at h1
 exact Sp.eds_bd hs hp hl x (List.mem_filter.1 h1).1
theorem spec_long {s:ByteArray} (h:4000 < s.size):Sp.parseSpec s = .error (1,0):=by
 unfold Sp.parseSpec Sp.readSpec;rw[if_pos h]
theorem spec_bad {s:ByteArray} (h:¬ 4000 < s.size) {i:Nat} (hb:Sp.bad s=some i):Sp.parseSpec s = .error (2,(i:Int)):=by
 unfold Sp.parseSpec Sp.readSpec;rw[if_neg h,hb]
theorem spec_form {s:ByteArray} (h:¬ 4000 < s.size) (hb:Sp.bad s=none) {k:Nat} (hp:Sp.plFrom (Sp.split s 10) 0 [] = .error k):Sp.parseSpec s = .error (3,(k:Int)):=by
 unfold Sp.parseSpec Sp.readSpec;rw[if_neg h,hb];simp only;rw[Sp.rd_of_pl,hp]
theorem spec_read {s:ByteArray} (h:¬ 4000 < s.size) (hb:Sp.bad s=none) {P:List (Option Sp.Ln)} (hp:Sp.plFrom (Sp.split s 10) 0 [] = .ok P):Sp.parseSpec s=if (Sp.wrongSpec (Sp.says P) (Sp.numsFrom P 0)).1=0 then .ok (Sp.says P) else .error (Sp.wrongSpec (Sp.says P) (Sp.numsFrom P 0)):=by
 unfold Sp.parseSpec Sp.readSpec;rw[if_neg h,hb];simp only;rw[Sp.rd_of_pl,hp]
theorem gv_at (P:List (Option Sp.Ln)) :
  (∃ i,Sp.first (Sp.twiceAt (Sp.says P)) (Sp.says P).length=some i∧Sp.gv P 0 [] = .error ((Sp.numsFrom P 0).getD i 0)) ∨
  (Sp.first (Sp.twiceAt (Sp.says P)) (Sp.says P).length=none∧∃ T',Sp.gv P 0 [] = .ok T'∧Sp.tsorted T'∧T'.Perm (Sp.verts (Sp.says P))):=by
 have h:=Sp.gv_spec P [] [] (by simp[Sp.tsorted]) (by simp[Sp.says,Sp.verts]) (fun i hi=>by simp[Sp.says] at hi)
 simpa using h
theorem ge_at {P:List (Option Sp.Ln)} {T:Sp.Tb} (hp:T.Perm (Sp.verts (Sp.says P))) :
  (∃ i,Sp.first (Sp.loose (Sp.says P)) (Sp.says P).length=some i∧Sp.ge T P 0 [] = .error ((Sp.numsFrom P 0).getD i 0)) ∨
  (Sp.first (Sp.loose (Sp.says P)) (Sp.says P).length=none∧Sp.ge T P 0 [] = .ok (Sp.edsOf (Sp.says P) (Sp.says P))):=by
 have h:=Sp.ge_spec T (Sp.says P) hp P [] (by simp) (fun i hi=>by simp[Sp.says] at hi)
 simpa [Sp.says,Sp.edsOf] using h
theorem spec_twice {s:ByteArray} (h:¬ 4000 < s.size) (hb:Sp.bad s=none) {P:List (Option Sp.Ln)} (hp:Sp.plFrom (Sp.split s 10) 0 [] = .ok P) {k:Nat} (hg:Sp.gv P 0 [] = .error k):Sp.parseSpec s = .error (4,(k:Int)):=by
 rw[spec_read h hb hp]
 rcases gv_at P with ⟨i,h1,h2⟩ | ⟨h1,T,h2,_⟩
 ·rw[hg] at h2
  injection h2 with h2
  have hw:Sp.wrongSpec (Sp.says P) (Sp.numsFrom P 0)=(4,(k:Int)):=by unfold Sp.wrongSpec;rw[h1];simp only;rw[← h2]
  rw[hw];rfl
 ·rw[hg] at h2;cases h2
theorem spec_name {s:ByteArray} (h:¬ 4000 < s.size) (hb:Sp.bad s=none) {P:List (Option Sp.Ln)} (hp:Sp.plFrom (Sp.split s 10) 0 [] = .ok P) {T:Sp.Tb} (hg:Sp.gv P 0 [] = .ok T) {k:Nat} (he:Sp.ge T P 0 [] = .error k):Sp.parseSpec s = .error (5,(k:Int)):=by
 rw[spec_read h hb hp]
 rcases gv_at P with ⟨i,h1,h2⟩ | ⟨h1,T',h2,_,hP⟩
 ·rw[hg] at h2;cases h2
 ·rw[hg] at h2
  injection h2 with h2
  subst h2
  rcases ge_at hP with ⟨i,g1,g2⟩ | ⟨g1,g2⟩
  ·rw[he] at g2
   injection g2 with g2
   have hw:Sp.wrongSpec (Sp.says P) (Sp.numsFrom P 0)=(5,(k:Int)):=by unfold Sp.wrongSpec;rw[h1];simp only;rw[g1];simp only;rw[← g2]
   rw[hw];rfl
  ·rw[he] at g2;cases g2
structure Fine (s:ByteArray) (P:List (Option Sp.Ln)) (T:Sp.Tb) (E:List Sp.Ed):Prop where
 srt:Sp.tsorted T
 prm:T.Perm (Sp.verts (Sp.says P))
 tl:T.length=Sp.nv (Sp.says P)
 eq:E=Sp.edsOf (Sp.says P) (Sp.says P)
 el:E.length=Sp.edges (Sp.says P)
 lo:Sp.first (Sp.loose (Sp.says P)) (Sp.says P).length=none
 spec:Sp.parseSpec s=if 256 < Sp.edges (Sp.says P)∨64 < Sp.nv (Sp.says P) then .error (6,0) else .ok (Sp.says P)
theorem spec_fine {s:ByteArray} (h:¬ 4000 < s.size) (hb:Sp.bad s=none) {P:List (Option Sp.Ln)} (hp:Sp.plFrom (Sp.split s 10) 0 [] = .ok P) {T:Sp.Tb} (hg:Sp.gv P 0 [] = .ok T) {E:List Sp.Ed} (he:Sp.ge T P 0 [] = .ok E):Fine s P T E:=by
 rcases gv_at P with ⟨i,h1,h2⟩ | ⟨h1,T',h2,hS,hP⟩
 ·rw[hg] at h2;cases h2
 ·rw[hg] at h2
  injection h2 with h2
  subst h2
  rcases ge_at hP with ⟨i,g1,g2⟩ | ⟨g1,g2⟩
  ·rw[he] at g2;cases g2
  ·rw[he] at g2
   injection g2 with g2
   refine⟨hS,hP,by rw[hP.length_eq,Sp.verts_len],g2,by rw[g2,Sp.edsOf_len],g1,?_⟩
   rw[spec_read h hb hp]
   have hw:Sp.wrongSpec (Sp.says P) (Sp.numsFrom P 0)=if 256 < Sp.edges (Sp.says P)∨64 < Sp.nv (Sp.says P) then (6,0) else (0,0):=by unfold Sp.wrongSpec;rw[h1];simp only;rw[g1];rfl
   rw[hw]
   by_cases c:256 < Sp.edges (Sp.says P)∨64 < Sp.nv (Sp.says P)
   ·rw[if_pos c,if_pos c];rfl
   ·rw[if_neg c,if_neg c];rfl
end Go.Proofs.YteflnddphpjahaaGreatDoor
namespace Go.Proofs.YteflnddphpjahaaGreatDoor.Sp
open Go Go.RowKit
theorem first_inv {p:Nat→Bool} {n:Nat} (h:first p n=none):∀ j,j < n→p j=false:=by
 intro j hj
 unfold first at h
 rw[List.find?_eq_none] at h
 have:=h j (List.mem_range.2 hj)
 simpa using this
def pgOf (s:ByteArray):Pg:=⟨codeOf s,(codeOf s 5).headD [],(codeOf s 6).headD []⟩
theorem comp_zero {s:ByteArray} (h:(comp s).1=0):s.size≤2000∧(split s 10).length=7∧(∀ j,j < 7→lineOk j ((split s 10).getD j ⟨#[]⟩)=true)∧∀ j,j < 5→keeps (codeOf s j)=true:=by
 unfold comp at h
 by_cases c1:2000 < s.size
 ·rw[if_pos c1] at h;exact absurd h (by decide)
 ·rw[if_neg c1] at h
  cases h1:first (fun i=>!lineOk i ((split s 10).getD i ⟨#[]⟩)) (min 7 (split s 10).length) with
  | some i=>rw[h1] at h;exact absurd h (by simp)
  | none =>
   rw[h1] at h
   simp only at h
   by_cases c2:7 < (split s 10).length
   ·rw[if_pos c2] at h;exact absurd h (by decide)
   ·rw[if_neg c2] at h
    by_cases c3:(split s 10).length < 7
    ·rw[if_pos c3] at h;exact absurd h (by simp)
    ·rw[if_neg c3] at h
     cases h2:first (fun i=>decide (hgt (codeOf s i) (codeOf s i).length 0 (codeOf s i).length 0≠some 1)) 5 with
     | some i=>rw[h2] at h;exact absurd h (by simp)
     | none =>
      refine⟨by omega,by omega,fun j hj=>?_,fun j hj=>?_⟩
      ·have:=first_inv h1 j (by omega)
       simpa using this
      ·have:=first_inv h2 j hj
       unfold keeps
       simpa using this
theorem line_code {s:ByteArray} (h:(comp s).1=0) {i:Nat} (hi:i < 5):fmd (i == 2) (codeOf s i) 0=true:=by
 obtain⟨_,_,h3,_⟩:=comp_zero h
 have h1:=h3 i (by omega)
 unfold lineOk at h1
 rw[if_neg (by omega)] at h1
 simp only[Bool.and_eq_true] at h1
 exact h1.2.1
theorem line_comb {s:ByteArray} (h:(comp s).1=0) {i:Nat} (hi:5≤i) (h7:i < 7):(codeOf s i).length=1∧(codeOf s i).headD [] ∈ combsL:=by
 obtain⟨_,_,h3,_⟩:=comp_zero h
 have h1:=h3 i h7
 unfold lineOk at h1
 rw[if_pos hi] at h1
 simp only[Bool.and_eq_true,decide_eq_true_eq] at h1
 obtain⟨_,h4,h5⟩:=h1
 unfold codeOf
 refine⟨by rw[List.length_map];exact h4,?_⟩
 generalize (ws ((split s 10).getD i ⟨#[]⟩)).tail=l at *
 match l,h4 with
 | [z],_=>exact h5
theorem code_len {s:ByteArray} (h:(comp s).1=0) (i:Nat):(codeOf s i).length≤4000:=by
 obtain⟨hs,_,_,_⟩:=comp_zero h
 unfold codeOf ws
 have h1:=(split_len ((split s 10).getD i ⟨#[]⟩) 32).2
 rw[List.length_map,List.length_tail]
 by_cases hl:i < (split s 10).length
 ·have hm:(split s 10).getD i ⟨#[]⟩ ∈ split s 10:=by rw[List.getD_eq_getElem?_getD,List.getElem?_eq_getElem hl];exact List.getElem_mem hl
  have:=cut_size s 10 _ hm
  omega
 ·have he:(split s 10).getD i ⟨#[]⟩=⟨#[]⟩:=by rw[List.getD_eq_getElem?_getD,List.getElem?_eq_none (by omega)];rfl
  rw[he] at h1 ⊢
  have hz:(⟨#[]⟩:ByteArray).size=0:=rfl
  omega
theorem code_good {s:ByteArray} (h:(comp s).1=0) {i:Nat} (hi:i < 5):Good (codeOf s i):=by
 have h1:=line_code h hi
 have hf:fmd true (codeOf s i) 0=true:=by
  by_cases c:i=2
  ·subst c;exact h1
  ·have e:(i == 2)=false:=beq_eq_false_iff_ne.2 c
   rw[e] at h1
   exact fmd_weight _ _ h1
 obtain⟨_,_,_,h4⟩:=comp_zero h
 have h5:=h4 i hi
 refine⟨hf,?_,code_len h i⟩
 rcases keeps_drun hf with h6 | h6
 ·exact h6.2
 ·rw[h5] at h6;exact absurd h6.1 (by decide)
theorem code_nw {s:ByteArray} (h:(comp s).1=0) {i:Nat} (hi:i < 5) (h2:i≠2):fmd false (codeOf s i) 0=true:=by
 have h1:=line_code h hi
 have e:(i == 2)=false:=beq_eq_false_iff_ne.2 h2
 rw[e] at h1
 exact h1
theorem eAt_mem {L:List Ln} {a b i:Nat} {x:Ed} (h:x ∈ eAt L a b i):x.frm=a∧x.to=b∧∃ l ∈ L,x.n=l.n:=by
 unfold eAt at h
 obtain⟨l,hl,rfl⟩:=List.mem_map.1 h
 exact⟨rfl,rfl,l,List.mem_of_mem_take (List.mem_filter.1 hl).1,rfl⟩
theorem eRow_mem {L:List Ln} {a:Nat} {x:Ed}:∀ b,x ∈ eRow L a b→x.frm=a∧x.to < b∧∃ l ∈ L,x.n=l.n:=by
 intro b
 induction b with
 | zero=>intro h;cases h
 | succ b ih =>
  intro h
  rcases List.mem_append.1 h with h | h
  ·obtain⟨h1,h2,h3⟩:=ih h;exact⟨h1,by omega,h3⟩
  ·obtain⟨h1,h2,h3⟩:=eAt_mem h;exact⟨h1,by omega,h3⟩
theorem es_mem {L:List Ln} {n:Nat} {x:Ed}:∀ k,x ∈ es L n k→x.frm < k∧x.to < n∧∃ l ∈ L,x.n=l.n:=by
 intro k
 induction k with
 | zero=>intro h;cases h
 | succ k ih =>
  intro h
  rcases List.mem_append.1 h with h | h
  ·obtain⟨h1,h2,h3⟩:=ih h;exact⟨by omega,h2,h3⟩
  ·obtain⟨h1,h2,h3⟩:=eRow_mem n h;exact⟨by omega,h2,h3⟩
theorem vs_mem {L:List Ln} {x:Ln}:∀ k,x ∈ vs L k→x ∈ L:=by
 intro k
 induction k with
 | zero=>intro h;cases h
 | succ k ih =>
  intro h
  rcases List.mem_append.1 h with h | h
  ·exact ih h
  ·unfold vAt at h
   exact List.mem_of_mem_take (List.mem_filter.1 h).1
theorem lineOf_bd {s:ByteArray} {l:Ln} (h:lineOf s=some l) : -1000000000≤l.n∧l.n≤1000000000:=by
 have hfin:∀ e a b j,fin s e a b j=some l→-1000000000≤l.n∧l.n≤1000000000:=by
  intro e a b j hf
  unfold fin at hf
  split at hf
  ·cases hn:number (s.extract (j+1) s.size).data.toList with
   | none=>rw[hn] at hf;cases hf
   | some n =>
    rw[hn] at hf
    injection hf with hf
    subst hf
    exact number_bd hn
  ·cases hf
 unfold lineOf at h
 split at h
 ·cases h
 ·split at h
  ·split at h
   ·cases h
   ·exact hfin _ _ _ _ h
  ·exact hfin _ _ _ _ h
theorem plFrom_bd:∀ (ls:List ByteArray) (k:Nat) (P Q:List (Option Ln)),(∀ l,some l ∈ P→-1000000000≤l.n∧l.n≤1000000000)→plFrom ls k P = .ok Q→∀ l,some l ∈ Q→-1000000000≤l.n∧l.n≤1000000000:=by
 intro ls
 induction ls with
 | nil=>intro k P Q hP h;injection h with h;subst h;exact hP
 | cons x r ih =>
  intro k P Q hP h
  simp only[plFrom] at h
  split at h
  ·cases h
  ·rename_i p hp
   refine ih _ _ _ ?_ h
   intro l hl
   rcases List.mem_append.1 hl with hl | hl
   ·exact hP l hl
   ·rw[List.mem_singleton] at hl
    subst hl
    unfold plOf at hp
    split at hp
    ·cases hp
    ·cases hlo:lineOf x with
     | none=>rw[hlo] at hp;cases hp
     | some l' =>
      rw[hlo] at hp
      injection hp with hp
      injection hp with hp
      subst hp
      exact lineOf_bd hlo
end Go.Proofs.YteflnddphpjahaaGreatDoor.Sp
namespace Go.Proofs.YteflnddphpjahaaGreatDoor
open Go.RowKit
theorem parse_facts {s:ByteArray} {L:List Sp.Ln} (h:Sp.parseSpec s = .ok L):(Sp.vs L (Sp.nv L)).length=Sp.nv L∧Sp.nv L≤64∧∀ l ∈ L,-1000000000≤l.n∧l.n≤1000000000:=by
 by_cases c:4000 < s.size
 ·rw[spec_long c] at h;cases h
 ·cases hb:Sp.bad s with
  | some i=>rw[spec_bad c hb] at h;cases h
  | none =>
   cases hp:Sp.plFrom (Sp.split s 10) 0 [] with
   | error k=>rw[spec_form c hb hp] at h;cases h
   | ok P =>
    cases hg:Sp.gv P 0 [] with
    | error k=>rw[spec_twice c hb hp hg] at h;cases h
    | ok T =>
     cases he:Sp.ge T P 0 [] with
     | error k=>rw[spec_name c hb hp hg he] at h;cases h
     | ok E =>
      have F:=spec_fine c hb hp hg he
      have hsp:=F.spec
      rw[h] at hsp
      by_cases c2:256 < Sp.edges (Sp.says P)∨64 < Sp.nv (Sp.says P)
      ·rw[if_pos c2] at hsp;cases hsp
      ·rw[if_neg c2] at hsp
       injection hsp with hsp
       subst hsp
       refine⟨?_,by omega,fun l hl=>?_⟩
       ·have h1:=congrArg List.length (Sp.vs_eq F.srt F.prm)
        rw[List.length_map] at h1
        rw[h1,F.tl]
       ·unfold Sp.says at hl
        rw[List.mem_filterMap] at hl
        obtain⟨o,ho,e⟩:=hl
        simp only[id] at e
        subst e
        exact Sp.plFrom_bd _ _ _ _ (fun l hl=>by cases hl) hp l ho
theorem fn_form {w:World} {M:Nat} {x:List UInt8} {fv:Value} (h:Fn w M x fv):∃ F caps,fv = .func (.func F) #[] caps:=by
 rcases h with ⟨B,n,_,e,_⟩ | ⟨k,_,_,e⟩
 ·exact⟨_,_,e⟩
 ·exact⟨_,_,e⟩
theorem code_of {w:World} {g:Nat} {L:List (List UInt8)} (h:CodeAt w g L) (hg:Sp.Good L):CodeW w g L:=by
 refine⟨hg,h.mate,h.lt,fun i hi=>?_⟩
 obtain⟨fv,h1,h2⟩:=h.fn i hi
 obtain⟨F,caps,rfl⟩:=fn_form h2
 exact⟨F,caps,h1,h2⟩
theorem headD_map {l:List ByteArray}:(l.map (·.data.toList)).headD []=(l.headD ⟨#[]⟩).data.toList:=by
 cases l <;> rfl
theorem prg_of {s:ByteArray} {w:World} {P:Nat} {C:Array Value} {t:TypeId} (h0:(Sp.comp s).1=0) (hb:w.heap[P]? = some (.cells C t (0,0))) (hl:LnsIn (Sp.split s 10) w P C 7):PrgAt w P (Sp.pgOf s):=by
 have hcell:∀ j,w.cell? ⟨P,j,none⟩=C[j]?:=fun j=>cell_of_row w P j C t (0,0) hb
 have hcomb:∀ j,5≤j→j < 7→CombAt w P (j * 4+1) ((Sp.codeOf s j).headD []):=by
  intro j h5 h7
  obtain⟨k,hk,e1,e2,e3⟩:=hl.comb j h7 h5
  obtain⟨p,n,cap,b,z,q,F,hL⟩:=hl.shape j h7
  have e4:(Sp.codeOf s j).headD []=Sp.combsL[k]!:=by
   have:Sp.codeOf s j=[Sp.combsL[k]!]:=e3
   rw[this];rfl
  refine⟨b,cmF[k]!,(hcell _).trans hL.c1,?_,?_,?_⟩
  ·rw[e4,← none_of k hk];exact(hcell _).trans e1
  ·exact(hcell _).trans e2
  ·rw[e4];exact join_of k hk
 refine⟨(Array.getElem?_eq_some_iff.1 hb).1,fun i hi=>?_,hcomb 5 (by omega) (by omega),hcomb 6 (by omega) (by omega)⟩
 obtain⟨g,cap,e1,e2,e3⟩:=hl.code i (by omega) hi
 exact⟨g,cap,(hcell _).trans e1,code_of e3 (Sp.code_good h0 hi)⟩
theorem tw_coded {s:ByteArray} (h0:(Sp.comp s).1=0) {i:Nat} (hi:i < 5):Coded (tw s i):=by
 obtain⟨hs,h7,_,_⟩:=Sp.comp_zero h0
 have hline:(Sp.split s 10).getD i ⟨#[]⟩ ∈ Sp.split s 10:=by
  rw[List.getD_eq_getElem?_getD,List.getElem?_eq_getElem (by omega)];exact List.getElem_mem _
 have hlz:=Sp.cut_size s 10 _ hline
 have hWd:Wds (tw s i):=by
  intro z hz'
  have hm:z ∈ Sp.ws ((Sp.split s 10).getD i ⟨#[]⟩):=List.mem_of_mem_tail hz'
  exact⟨Sp.ws_no z hm,Nat.le_trans (Sp.cut_size _ 32 z hm) (by omega)⟩
 have hl:(tw s i).length≤4000:=by
  have:=Sp.code_len h0 i
  unfold Sp.codeOf at this
  rw[List.length_map] at this
  exact this
 exact coded_of hWd hl (Sp.line_code h0 hi)
theorem words_of {s:ByteArray} {w:World} {p0 p1 p2 p3 p4:Option Addr} {n0 n1 n2 n3 n4 k0 k1 k2 k3 k4:Nat} {b5 b6:ByteArray} (h0:(Sp.comp s).1=0) (h:RWordsAt s w #[.slice p0 n0 k0,.slice p1 n1 k1,.slice p2 n2 k2,.slice p3 n3 k3,.slice p4 n4 k4,.string b5,.string b6]) :
  CodeR w p0 n0 (Sp.codeOf s 0)∧CodeR w p1 n1 (Sp.codeOf s 1)∧CodeR w p2 n2 (Sp.codeOf s 2)∧CodeR w p3 n3 (Sp.codeOf s 3)∧CodeR w p4 n4 (Sp.codeOf s 4)∧b5.data.toList=(Sp.codeOf s 5).headD []∧b6.data.toList=(Sp.codeOf s 6).headD []:=by
 obtain⟨⟨P,hc⟩,hk⟩:=h
 have one:∀ j p n k,j < 5→(#[.slice p0 n0 k0,.slice p1 n1 k1,.slice p2 n2 k2,.slice p3 n3 k3,.slice p4 n4 k4,.string b5,.string b6]:Array Value)[j]? = some (.slice p n k)→CodeR w p n (Sp.codeOf s j):=by
  intro j p n k hj e
  obtain⟨p',cap,e1,e2,_⟩:=hc j (by omega) hj
  rw[e] at e1
  injection e1 with e1
  injection e1 with q1 q2 q3
  subst q1 q2
  exact⟨tw s j,rfl,rfl,e2,tw_coded h0 hj⟩
 have two:∀ j b,5≤j→j < 7→(#[.slice p0 n0 k0,.slice p1 n1 k1,.slice p2 n2 k2,.slice p3 n3 k3,.slice p4 n4 k4,.string b5,.string b6]:Array Value)[j]? = some (.string b)→b.data.toList=(Sp.codeOf s j).headD []:=by
  intro j b h5 h7 e
  have e1:=hk j h5 h7 h7
  rw[e] at e1
  injection e1 with e1
  injection e1 with e1
  rw[e1]
  unfold Sp.codeOf
  rw[headD_map];rfl
 exact⟨one 0 _ _ _ (by omega) rfl,one 1 _ _ _ (by omega) rfl,one 2 _ _ _ (by omega) rfl,one 3 _ _ _ (by omega) rfl,one 4 _ _ _ (by omega) rfl,two 5 _ (by omega) (by omega) rfl,two 6 _ (by omega) (by omega) rfl⟩
open Go.RowKit Go.Shelf
attribute [local go_sem] Oper.semAt_some
theorem all_in (F:Fence) (n:Nat) (h5:F.fn 116) (hro:F.round=none) (p0:Option Addr) (w:World) :
  CallsIn F n Tryz.prog 116 #[.pointer p0] w fun e w'=>e = .returned (.func (.func 169) #[] #[.pointer (some ⟨w.heap.size,0,none⟩)])∧w'=w.alloc (.cells #[.pointer p0] 160):=by
 refine callsIn_of_wp Tryz.func116 rfl h5 ?_ hro
 simp only[Tryz.ntmps116,List.size_toArray,List.length_cons,List.length_nil,Nat.reduceAdd,Nat.reduceSub,Array.replicate_succ,Array.replicate_zero,List.push_toArray,List.append_toArray,List.nil_append,List.cons_append]
 gi_wp2
 go_ret
 exact⟨rfl,rfl⟩
theorem all1_in (F:Fence) (n:Nat) (h8:F.fn 169) (hro:F.round=none) (hn:1≤n) (l Bs t n₀ : Nat) (p:Option Addr) (cap:Nat) (T:Sp.Tb) (hl:T.length≤100000) (J Jx:List (Int × Int)→World→Prop)
  (hY:∀ pre x W,J pre W→pre.length < T.length→YieldAt F (n - 1) Tryz.prog l #[.int .i32 x.1,.int .i64 x.2] W fun e W' =>
    (e = .returned (.bool true)∧J (pre++[x]) W'∧Below n₀ W W')∨(e = .returned (.bool false)∧Jx (pre++[x]) W'))
  (W:World) (hn₀ : n₀≤W.heap.size) (hJa:AbidesFrom W.heap.size J) (hBs:W.cell? ⟨Bs,0,none⟩=some (.pointer (some ⟨t,0,none⟩))) (ht:W.cell? ⟨t,0,none⟩=some (.slice p T.length cap))
  (hc:∀ j (hj:j < T.length),∃ g,p=some ⟨g,0,none⟩∧g < n₀∧W.cell? ⟨g,j * 2,none⟩=some (.int .i32 T[j].1)∧W.cell? ⟨g,j * 2+1,none⟩=some (.int .i64 T[j].2)) (h0:J [] W) :
  CallsIn F n Tryz.prog 169 #[.func (.yield l) #[] #[],.pointer (some ⟨Bs,0,none⟩)] W fun e W'=>(∃ v,e = .returned v) ∧
   ((∃ ys,ys=T∧J ys W')∨(∃ pre,pre <+: T∧Jx pre W')):=by
 refine callsIn_of_wp Tryz.func169 rfl h8 ?_ hro
 simp only[Tryz.ntmps169,List.size_toArray,List.length_cons,List.length_nil,Nat.reduceAdd,Nat.reduceSub,Array.replicate_succ,Array.replicate_zero,List.push_toArray,List.append_toArray,List.nil_append,List.cons_append]
 gi_wp2
 gi_loopw [10] (fun i wr=>∃ k:Nat,k≤T.length∧i = .int .i64 k∧Hid (J (T.take k) wr)∧Below n₀ W wr)
  (fun i _=>T.length - (intOf i).toNat)
 case atStart=>exact⟨0,Nat.zero_le _,rfl,h0,Below.refl _ _⟩
 case round =>
  obtain⟨k,hk,rfl,HJ,hnx⟩:=hrel
  by_cases hlt:k < T.length
  ·obtain⟨g,rfl,hg,c0,c1⟩:=hc k hlt
   have d0:=(hnx.cell (p:=⟨g,k * 2,none⟩) hg).trans c0
   have d1:=(hnx.cell (p:=⟨g,k * 2+1,none⟩) hg).trans c1
   have hltz:(k:Int) < (T.length:Int):=by omega
   obtain⟨x,hx⟩:∃ x,T[k]=x:=⟨_,rfl⟩
   rw[hx] at d0 d1
   have HX:=hde hx
   clear hx c0 c1
   have hJ1:J (T.take k) (wr.alloc (.cells #[.int .i32 x.1,.int .i64 x.2] 313)):=hJa _ _ _ none (uh HJ) (World.grownBy_alloc _ _ none) (fun r e=>by cases e)
   obtain⟨fn,tmps,assign,body,hy,hR⟩:=hY _ x _ hJ1 (by rw[List.length_take];omega)
   clear hJ1
   gi_wp2
   refine hR.mono ?_
   rintro e W3 (⟨rfl,hJ3,hk3⟩ | ⟨rfl,hJx3⟩)
   ·have HJ3:=hde hJ3
    clear hJ3
    gi_wp2
    go_roundw
    case rel=>exact⟨k+1,by omega,by go_num,by show J _ _;rw[List.take_succ_eq_append_getElem hlt,uh HX];exact uh HJ3,hnx.trans (((Below.refl _ _).alloc (Nat.le_trans hn₀ hnx.size) _).trans hk3)⟩
    case measure=>simp[intOf];omega
   ·have HJ3:=hde hJx3
    clear hJx3
    gi_wp2
    refine bodyPost_ret (results_none rfl _ _ _) rfl ?_
    exact⟨⟨_,rfl⟩,.inr ⟨_,⟨T.drop (k+1),by rw[← uh HX,← List.take_succ_eq_append_getElem hlt,List.take_append_drop]⟩,uh HJ3⟩⟩
  ·have hltz:¬ (k:Int) < (T.length:Int):=by omega
   obtain rfl:k=T.length:=by omega
   gi_wp2
   go_end0
   exact⟨⟨_,rfl⟩,.inl (by have h:=uh HJ;simpa using h)⟩
theorem all_stops (F:Fence) (n:Nat) (h8:F.fn 169) (hro:F.round=none) (hn:1≤n) (Bs t n₀ : Nat) (p:Option Addr) (cap:Nat) (T:Sp.Tb) (hl:T.length≤100000) (w:World) (hBs':Bs < w.heap.size) (hn₀ : n₀≤w.heap.size) (htn:t < w.heap.size)
  (hBs:w.cell? ⟨Bs,0,none⟩=some (.pointer (some ⟨t,0,none⟩))) (ht:w.cell? ⟨t,0,none⟩=some (.slice p T.length cap))
  (hc:∀ j (hj:j < T.length),∃ g,p=some ⟨g,0,none⟩∧g < n₀∧w.cell? ⟨g,j * 2,none⟩=some (.int .i32 T[j].1)∧w.cell? ⟨g,j * 2+1,none⟩=some (.int .i64 T[j].2)) :
  SeqStopsK F n Tryz.prog 169 #[.pointer (some ⟨Bs,0,none⟩)] (fun x:Int × Int=>#[Value.int .i32 x.1,Value.int .i64 x.2]) (Below n₀) (fun ys=>ys=T) (fun pre=>pre <+: T) T.length w:=fun l J Jx W hW hJ _ hY h0 =>
 all1_in F n h8 hro hn l Bs t n₀ p cap T hl J Jx hY W (Nat.le_trans hn₀ hW.size) hJ ((hW.cell (p:=⟨Bs,0,none⟩) hBs').trans hBs) ((hW.cell (p:=⟨t,0,none⟩) htn).trans ht)
  (fun j hj=>by obtain⟨g,e,hg,c0,c1⟩:=hc j hj;exact⟨g,e,hg,(hW.cell (p:=⟨g,j * 2,none⟩) (Nat.lt_of_lt_of_le hg hn₀)).trans c0,(hW.cell (p:=⟨g,j * 2+1,none⟩) (Nat.lt_of_lt_of_le hg hn₀)).trans c1⟩) h0
end Go.Proofs.YteflnddphpjahaaGreatDoor
