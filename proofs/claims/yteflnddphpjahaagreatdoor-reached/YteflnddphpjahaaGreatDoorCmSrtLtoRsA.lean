import Derived.Test.YteflnddphpjahaaGreatDoorCmSrtFtoSrtJ
import Derived.Test.YteflnddphpjahaaGreatDoorCmSrtK
import Derived.Test.YteflnddphpjahaaGreatDoorCmRxAtoPlQ
import Derived.Test.YteflnddphpjahaaGreatDoorCmRnLtoCardD
import Derived.Test.YteflnddphpjahaaGreatDoorCmPlAtoRefA
import Derived.Test.YteflnddphpjahaaGreatDoorCmCqEtoCqK
import Derived.Test.YteflnddphpjahaaGreatDoorCmCqRtoCqM
set_option linter.unusedVariables false
set_option linter.unusedSimpArgs false
set_option maxRecDepth 100000
set_option maxHeartbeats 16000000
namespace Go.Proofs.YteflnddphpjahaaGreatDoor
open Go.RowKit
def Done (Y:List Sp.Ed) (s p:Nat):Prop := ∀ C:Nat→Prop,C 0→(∀ q,C q→Ord Y q (q+s)→C (q+s))→C p
theorem Done.zero {Y:List Sp.Ed} {s:Nat}:Done Y s 0:=fun _ h _=>h
theorem Done.step {Y:List Sp.Ed} {s p:Nat} (h:Done Y s p) (o:Ord Y p (p+s)):Done Y s (p+s):=fun C h0 h1=>h1 p (h C h0 h1) o
def Bl (Y:List Sp.Ed) (s n p:Nat):Prop := ∀ C:Nat→Prop,(∀ q,n≤q+s→Ord Y q n→C q)→(∀ q,q+s≤n→Ord Y q (q+s)→C (q+s)→C q)→C p
theorem Bl.last {Y:List Sp.Ed} {s n p:Nat} (h:n≤p+s) (o:Ord Y p n):Bl Y s n p:=fun _ h1 _=>h1 p h o
theorem Bl.more {Y:List Sp.Ed} {s n p:Nat} (h:p+s≤n) (o:Ord Y p (p+s)) (b:Bl Y s n (p+s)):Bl Y s n p:=fun C h1 h2=>h2 p h o (b C h1 h2)
theorem Bl.inv {Y:List Sp.Ed} {s n p:Nat} (h:Bl Y s n p):(n≤p+s∧Ord Y p n)∨(p+s≤n∧Ord Y p (p+s)∧Bl Y s n (p+s)):=
 h (fun p=>(n≤p+s∧Ord Y p n)∨(p+s≤n∧Ord Y p (p+s)∧Bl Y s n (p+s))) (fun q h1 h2=>Or.inl ⟨h1,h2⟩) fun q h1 h2 h3=>Or.inr ⟨h1,h2,h3.elim (fun e=>.last e.1 e.2) (fun e=>.more e.1 e.2.1 e.2.2)⟩
theorem ord_same {Y Z:List Sp.Ed} {a b:Nat} (h:Ord Y a b) (k:∀ t,a≤t→t < b→Z[t]? = Y[t]?):Ord Z a b:=by
 intro s t x y h1 h2 h3 hx hy
 rw[k s (by omega) (by omega)] at hx;rw[k t (by omega) (by omega)] at hy
 exact h _ _ _ _ h1 h2 h3 hx hy
theorem Done.same {Y Z:List Sp.Ed} {s p:Nat} (h:Done Y s p) (k:∀ t,t < p→Z[t]? = Y[t]?):Done Z s p :=
 h (fun p=>(∀ t,t < p→Z[t]? = Y[t]?)→Done Z s p) (fun _=>.zero) (fun q ih o k=>.step (ih (fun t ht=>k t (by omega))) (ord_same o (fun t _ ht=>k t ht))) k
theorem Bl.same {Y Z:List Sp.Ed} {s n p:Nat} (h:Bl Y s n p) (k:∀ t,p≤t→Z[t]? = Y[t]?):Bl Z s n p :=
 h (fun p=>(∀ t,p≤t→Z[t]? = Y[t]?)→Bl Z s n p) (fun q h1 h2 k=>.last h1 (ord_same h2 (fun t ht _=>k t ht))) (fun q h1 h2 ih k=>.more h1 (ord_same h2 (fun t ht _=>k t ht)) (ih (fun t ht=>k t (by omega)))) k
theorem Done.bl {Y:List Sp.Ed} {s n p:Nat} (h:Done Y s p) (hp:p≤n) (k:Bl Y s n p):Bl Y s n 0 :=
 h (fun p=>p≤n→Bl Y s n p→Bl Y s n 0) (fun _ k=>k) (fun q ih o hp k=>ih (by omega) (.more hp o k)) hp k
theorem Bl.fin {Y:List Sp.Ed} {s n p:Nat} (h:Bl Y s n p) (hp:n≤p+s):Ord Y p n:=by
 rcases h.inv with ⟨h1,h2⟩ | ⟨h1,h2,h3⟩
 ·exact h2
 ·rw[show n=p+s by omega];exact h2
theorem Bl.two {Y:List Sp.Ed} {s n p:Nat} (h:Bl Y s n p) (hs:0 < s) (hp:p+2 * s≤n):Ord Y p (p+s)∧Ord Y (p+s) (p+2 * s)∧Bl Y s n (p+2 * s):=by
 rcases h.inv with ⟨h1,h2⟩ | ⟨h1,h2,h3⟩
 ·omega
 ·refine⟨h2,?_⟩
  rcases h3.inv with ⟨k1,k2⟩ | ⟨k1,k2,k3⟩
  ·obtain rfl:n=p+2 * s:=by omega
   exact⟨k2,.last (by omega) (fun a b x y e1 e2 e3=>by omega)⟩
  ·rw[show p+s+s=p+2 * s by omega] at k2 k3
   exact⟨k2,k3⟩
theorem Bl.one {Y:List Sp.Ed} {s n p:Nat} (h:Bl Y s n p) (hp:p+s < n) (hp2:n < p+2 * s):Ord Y p (p+s)∧Ord Y (p+s) n:=by
 rcases h.inv with ⟨h1,h2⟩ | ⟨h1,h2,h3⟩
 ·omega
 ·exact⟨h2,h3.fin (by omega)⟩
theorem insertion_at (g cap B a b N:Nat) (a' b':Int) (X:List Sp.Ed) (w:World) (ha:a'=(a:Int)) (hb':b'=(b:Int)) (hX:X.length=N) (h:w.ownsRow B 67 3 (.slice (some ⟨g,0,none⟩) N cap) N (edCells X)) (hab:a≤b) (hb:b≤N) (hl:N≤5000) :
  Calls Tryz.prog 251 #[.slice (some ⟨g,0,none⟩) N cap,.int .i64 a',.int .i64 b',.func (.func 118) #[] #[]] w (SrtPost g cap B N a b X w):=by
 subst ha hb'
 exact insertion_any g cap B a b N X w hX h hab hb hl
theorem symMerge_at (g cap B a m b N:Nat) (a' m' b':Int) (X:List Sp.Ed) (w:World) (ha:a'=(a:Int)) (hm:m'=(m:Int)) (hb':b'=(b:Int)) (hX:X.length=N) (h:w.ownsRow B 67 3 (.slice (some ⟨g,0,none⟩) N cap) N (edCells X)) (ham:a < m) (hmb:m < b) (hb:b≤N) (hl:N≤5000) (h1:Ord X a m) (h2:Ord X m b) :
  Calls Tryz.prog 252 #[.slice (some ⟨g,0,none⟩) N cap,.int .i64 a',.int .i64 m',.int .i64 b',.func (.func 118) #[] #[]] w (SymPost g cap B N a b X w):=by
 subst ha hm hb'
 exact symMerge_any g cap B N hl _ a m b X w nlr hX h ham hmb hb h1 h2
def StPost (g cap B N:Nat) (X:List Sp.Ed) (w:World) (e:Ending) (w':World):Prop :=
 e = .returned (.tuple #[])∧∃ Y,w'.ownsRow B 67 3 (.slice (some ⟨g,0,none⟩) N cap) N (edCells Y)∧w.grownBy w' (some g)∧St X Y∧Ord Y 0 N
theorem stable_any (g cap B N:Nat) (X:List Sp.Ed) (w:World) (hX:X.length=N) (h:w.ownsRow B 67 3 (.slice (some ⟨g,0,none⟩) N cap) N (edCells X)) (hl:N≤5000) :
  Calls Tryz.prog 170 #[.slice (some ⟨g,0,none⟩) N cap,.int .i64 N,.func (.func 118) #[] #[]] w (StPost g cap B N X w):=by
 have HX:=hde hX
 clear hX
 go_enter Tryz.func170,Tryz.ntmps170
 go_wp2
 go_loopw [7,8] (fun u v wr=>∃ (a:Nat) (Y:List Sp.Ed),u = .int .i64 a∧v = .int .i64 ((a+20:Nat):Int)∧a≤N∧wr.ownsRow B 67 3 (.slice (some ⟨g,0,none⟩) N cap) N (edCells Y)∧w.grownBy wr (some g)∧Hid (Y.length=N)∧Hid (St X Y)∧Hid (Done Y 20 a)) (fun u _ _=>N - (intOf u).toNat)
 case atStart=>exact⟨0,X,rfl,rfl,Nat.zero_le _,h,grown_refl _ _,HX,St.refl _,.zero⟩
 case round =>
  obtain⟨a,Y,rfl,rfl,haN,ho,hgr,HY,HST,HD⟩:=hrel
  clear h
  by_cases hlt:a+20≤N
  ·have hltz:(a:Int)+20≤(N:Int):=by omega
   go_wp2_with (go_at_call 251;refine(insertion_at g cap B a (a+20) N _ _ Y _ (by omega) (by omega) (uh HY) ho (by omega) (by omega) hl).mono ?_;rintro e w2 ⟨rfl,Z,ho2,hg2,hS2,hO2,hU2⟩;have HS2:=hde hS2;have HO2:=hde hO2;have HU2:=hde hU2;clear hS2 hO2 hU2)
   go_roundw
   case rel=>exact⟨a+20,Z,by go_num,by go_num,by omega,ho2,grown_trans hgr hg2,(uh HS2).1.trans (uh HY),(uh HST).trans (uh HS2),.step ((uh HD).same (fun t ht=>(uh HU2) t (Or.inl ht))) (uh HO2)⟩
   case measure=>simp[intOf];omega
  ·have hltz:¬ (a:Int)+20≤(N:Int):=by omega
   go_wp2_with (go_at_call 251;refine(insertion_at g cap B a N N _ _ Y _ (by omega) (by omega) (uh HY) ho (by omega) (by omega) hl).mono ?_;rintro e w2 ⟨rfl,Z,ho2,hg2,hS2,hO2,hU2⟩;have HS2:=hde hS2;have HO2:=hde hO2;have HU2:=hde hU2;clear hS2 hO2 hU2)
   have HB:Hid (Bl Z 20 N 0):=((uh HD).same (fun t ht=>(uh HU2) t (Or.inl ht))).bl haN (.last (by omega) (uh HO2))
   have HS3:=hde ((uh HST).trans (uh HS2))
   have HZl:Hid (Z.length=N):=(uh HS2).1.trans (uh HY)
   have hgw:=grown_trans hgr hg2
   clear HO2 HU2 HS2 HD ho hgr HY HST hltz hlt haN hg2
   go_loopw [6] (fun u wr=>∃ (s:Nat) (Y:List Sp.Ed),u = .int .i64 s∧20≤s∧s≤20000∧wr.ownsRow B 67 3 (.slice (some ⟨g,0,none⟩) N cap) N (edCells Y)∧w.grownBy wr (some g)∧Hid (Y.length=N)∧Hid (St X Y)∧Hid (Bl Y s N 0)) (fun u _=>20000 - (intOf u).toNat)
   case atStart=>exact⟨20,Z,rfl,Nat.le_refl _,by omega,ho2,hgw,HZl,HS3,HB⟩
   case round =>
    obtain⟨s,Y,rfl,hs20,hsm,ho,hgr,HY,HST,HB⟩:=hrel
    clear ho2 hgw HZl HS3
    by_cases hlt:s < N
    ·have hltz:(s:Int) < (N:Int):=by omega
     have hw1:IntKind.i64.wrap (2 * (s:Int))=2 * (s:Int):=by rw[IntKind.wrap_i64];omega
     have hw2:IntKind.i64.wrap ((s:Int) * 2)=(s:Int) * 2:=by rw[IntKind.wrap_i64];omega
     go_wp2
     go_loopw [7,8] (fun u v wr2=>∃ (a:Nat) (Z:List Sp.Ed),u = .int .i64 a∧v = .int .i64 ((a+2 * s:Nat):Int)∧a≤N∧wr2.ownsRow B 67 3 (.slice (some ⟨g,0,none⟩) N cap) N (edCells Z)∧w.grownBy wr2 (some g)∧Hid (Z.length=N)∧Hid (St X Z)∧Hid (Done Z (2 * s) a)∧Hid (Bl Z s N a)) (fun u _ _=>N - (intOf u).toNat)
     case atStart=>exact⟨0,Y,rfl,by go_num,Nat.zero_le _,ho,hgr,HY,HST,.zero,HB⟩
     case round =>
      obtain⟨a,Z,rfl,rfl,haN,ho2,hg2,HZ,HST2,HD,HB2⟩:=hrel
      clear ho hgr
      have hw3:IntKind.i64.wrap ((a:Int)+(s:Int))=(a:Int)+(s:Int):=by rw[IntKind.wrap_i64];omega
      by_cases hlt2:a+2 * s≤N
      ·have hlt2z:(a:Int)+2 * (s:Int)≤(N:Int):=by omega
       have HT:=hde ((uh HB2).two (by omega) hlt2)
       go_wp2_with (go_at_call 252;refine(symMerge_at g cap B a (a+s) (a+2 * s) N _ _ _ Z _ (by omega) (by omega) (by omega) (uh HZ) ho2 (by omega) (by omega) (by omega) hl (uh HT).1 (uh HT).2.1).mono ?_;rintro e w3 ⟨rfl,Z',ho3,hg3,hM3⟩;have HM3:=hde hM3;clear hM3)
       go_roundw
       case rel=>exact⟨a+2 * s,Z',by go_num,by go_num,by omega,ho3,grown_trans hg2 hg3,(uh HM3).1.1.trans (uh HZ),(uh HST2).trans (uh HM3).1,.step ((uh HD).same (fun t ht=>(uh HM3).2.2.1 t (Or.inl ht))) (uh HM3).2.1,(uh HT).2.2.same (fun t ht=>(uh HM3).2.2.1 t (Or.inr ht))⟩
       case measure=>simp[intOf];omega
      ·have hlt2z:¬ (a:Int)+2 * (s:Int)≤(N:Int):=by omega
       by_cases hlt3:a+s < N
       ·have hlt3z:(a:Int)+(s:Int) < (N:Int):=by omega
        have HT:=hde ((uh HB2).one hlt3 (by omega))
        go_wp2_with (go_at_call 252;refine(symMerge_at g cap B a (a+s) N N _ _ _ Z _ (by omega) (by omega) (by omega) (uh HZ) ho2 (by omega) (by omega) (by omega) hl (uh HT).1 (uh HT).2).mono ?_;rintro e w3 ⟨rfl,Z',ho3,hg3,hM3⟩;have HM3:=hde hM3;clear hM3)
        go_roundw
        case rel=>exact⟨2 * s,Z',by go_num,by omega,by omega,ho3,grown_trans hg2 hg3,(uh HM3).1.1.trans (uh HZ),(uh HST2).trans (uh HM3).1,((uh HD).same (fun t ht=>(uh HM3).2.2.1 t (Or.inl ht))).bl haN (.last (by omega) (uh HM3).2.1)⟩
        case measure=>simp[intOf];omega
       ·have hlt3z:¬ (a:Int)+(s:Int) < (N:Int):=by omega
        go_wp2
        go_roundw
        case rel=>exact⟨2 * s,Z,by go_num,by omega,by omega,ho2,hg2,HZ,HST2,(uh HD).bl haN (.last (by omega) ((uh HB2).fin (by omega)))⟩
        case measure=>simp[intOf];omega
    ·have hltz:¬ (s:Int) < (N:Int):=by omega
     go_wp2
     go_end0
     exact⟨rfl,Y,ho,hgr,uh HST,(uh HB).fin (by omega)⟩
theorem sortStable_any (g cap B N:Nat) (X:List Sp.Ed) (w:World) (hX:X.length=N) (h:w.ownsRow B 67 3 (.slice (some ⟨g,0,none⟩) N cap) N (edCells X)) (hl:N≤5000) :
  Calls Tryz.prog 117 #[.slice (some ⟨g,0,none⟩) N cap,.func (.func 118) #[] #[]] w (StPost g cap B N X w):=by
 have HX:=hde hX
 clear hX
 go_enter Tryz.func117,Tryz.ntmps117
 go_wp2_with (go_at_call 170;refine(stable_any g cap B N X _ (uh HX) h hl).mono ?_;rintro e w2 ⟨rfl,hq⟩)
 go_end0
 exact⟨rfl,hq⟩
theorem insertion_nil (fv:Value) (w:World):Calls Tryz.prog 251 #[.slice none 0 0,.int .i64 0,.int .i64 0,fv] w fun e w'=>e = .returned (.tuple #[])∧w'=w:=by
 go_enter Tryz.func251,Tryz.ntmps251
 go_wp2
 refine wp_loop_rounds 1 ?_
 rw[rounds_succ]
 go_wp2
 go_end0
 exact⟨rfl,rfl⟩
theorem stable_nil (fv:Value) (w:World):Calls Tryz.prog 170 #[.slice none 0 0,.int .i64 0,fv] w fun e w'=>e = .returned (.tuple #[])∧w'=w:=by
 go_enter Tryz.func170,Tryz.ntmps170
 go_wp2
 refine wp_loop_rounds 1 ?_
 rw[rounds_succ]
 go_wp2_with (go_at_call 251;refine(insertion_nil _ _).mono ?_;rintro e w2 ⟨rfl,hw⟩;obtain rfl:=hw.symm)
 refine wp_loop_rounds 1 ?_
 rw[rounds_succ]
 go_wp2
 go_end0
 exact⟨rfl,rfl⟩
theorem sortStable_nil (fv:Value) (w:World):Calls Tryz.prog 117 #[.slice none 0 0,fv] w fun e w'=>e = .returned (.tuple #[])∧w'=w:=by
 go_enter Tryz.func117,Tryz.ntmps117
 go_wp2_with (go_at_call 170;refine(stable_nil _ _).mono ?_;rintro e w2 ⟨rfl,hw⟩;obtain rfl:=hw.symm)
 go_end0
 exact⟨rfl,rfl⟩
theorem sortEdges (B N:Nat) (v:Value) (X:List Sp.Ed) (w:World) (hX:X.length=N) (h:w.ownsRow B 67 3 v N (edCells X)) (hl:N≤5000) :
  Calls Tryz.prog 117 #[v,.func (.func 118) #[] #[]] w fun e w'=>e = .returned (.tuple #[])∧∃ Y,w'.ownsRow B 67 3 v N (edCells Y)∧w.grownBy w' v.ownBlock∧St X Y∧Ord Y 0 N:=by
 rcases h.2 with ⟨hv,hn⟩ | ⟨g,cap,cur,hv,_⟩
 ·subst hv hn
  refine(sortStable_nil _ w).mono ?_
  rintro e w' ⟨rfl,rfl⟩
  exact⟨rfl,X,h,grown_refl _ _,St.refl _,fun s t x y e1 e2 e3=>by omega⟩
 ·subst hv
  exact sortStable_any g cap B N X w hX h hl
theorem ord_pairwise {Y:List Sp.Ed} (h:Ord Y 0 Y.length):Y.Pairwise Sp.lexle:=by
 rw[List.pairwise_iff_getElem]
 intro i j hi hj hij
 exact h i j _ _ (Nat.zero_le _) hij hj (List.getElem?_eq_getElem hi) (List.getElem?_eq_getElem hj)
theorem es_done {L:List Sp.Ln} {T:Sp.Tb} {Y:List Sp.Ed} (hs:Sp.tsorted T) (hp:T.Perm (Sp.verts L)) (hl:Sp.first (Sp.loose L) L.length=none) (hSt:St (Sp.edsOf L L) Y) (hO:Ord Y 0 (Sp.edsOf L L).length):Y=Sp.es L (Sp.nv L) (Sp.nv L):=by
 refine Sp.es_of (ord_pairwise (by rw[hSt.1];exact hO)) ?_ hSt.2
 intro x hx
 have h1:x ∈ Y.filter (Sp.isKey x.frm x.to):=List.mem_filter.2 ⟨hx,by simp[Sp.isKey]⟩
 rw[hSt.2] at h1
 exact Sp.eds_bd hs hp hl x (List.mem_filter.1 h1).1
theorem spec_long {s:ByteArray} (h:4000 < s.size):Sp.parseSpec s = .error (1,0):=by
 unfold Sp.parseSpec Sp.readSpec;rw[if_pos h]
theorem spec_bad {s:ByteArray} (h:¬ 4000 < s.size) {i:Nat} (hb:Sp.bad s=some i):Sp.parseSpec s = .error (2,(i:Int)):=by
 unfold Sp.parseSpec Sp.readSpec;rw[if_neg h,hb]
theorem spec_form {s:ByteArray} (h:¬ 4000 < s.size) (hb:Sp.bad s=none) {k:Nat} (hp:Sp.plFrom (Sp.split s 10) 0 [] = .error k):Sp.parseSpec s = .error (3,(k:Int)):=by
 unfold Sp.parseSpec Sp.readSpec;rw[if_neg h,hb];simp only;rw[Sp.rd_of_pl,hp]
theorem spec_read {s:ByteArray} (h:¬ 4000 < s.size) (hb:Sp.bad s=none) {P:List (Option Sp.Ln)} (hp:Sp.plFrom (Sp.split s 10) 0 [] = .ok P):Sp.parseSpec s=if (Sp.wrongSpec (Sp.says P) (Sp.numsFrom P 0)).1=0 then .ok (Sp.says P) else .error (Sp.wrongSpec (Sp.says P) (Sp.numsFrom P 0)):=by
 unfold Sp.parseSpec Sp.readSpec;rw[if_neg h,hb];simp only;rw[Sp.rd_of_pl,hp]
theorem gv_at (P:List (Option Sp.Ln)) :
  (∃ i,Sp.first (Sp.twiceAt (Sp.says P)) (Sp.says P).length=some i∧Sp.gv P 0 [] = .error ((Sp.numsFrom P 0).getD i 0)) ∨
  (Sp.first (Sp.twiceAt (Sp.says P)) (Sp.says P).length=none∧∃ T',Sp.gv P 0 [] = .ok T'∧Sp.tsorted T'∧T'.Perm (Sp.verts (Sp.says P))):=by
 have h:=Sp.gv_spec P [] [] (by simp[Sp.tsorted]) (by simp[Sp.says,Sp.verts]) (fun i hi=>by simp[Sp.says] at hi)
 simpa using h
theorem ge_at {P:List (Option Sp.Ln)} {T:Sp.Tb} (hp:T.Perm (Sp.verts (Sp.says P))) :
  (∃ i,Sp.first (Sp.loose (Sp.says P)) (Sp.says P).length=some i∧Sp.ge T P 0 [] = .error ((Sp.numsFrom P 0).getD i 0)) ∨
  (Sp.first (Sp.loose (Sp.says P)) (Sp.says P).length=none∧Sp.ge T P 0 [] = .ok (Sp.edsOf (Sp.says P) (Sp.says P))):=by
 have h:=Sp.ge_spec T (Sp.says P) hp P [] (by simp) (fun i hi=>by simp[Sp.says] at hi)
 simpa [Sp.says,Sp.edsOf] using h
theorem spec_twice {s:ByteArray} (h:¬ 4000 < s.size) (hb:Sp.bad s=none) {P:List (Option Sp.Ln)} (hp:Sp.plFrom (Sp.split s 10) 0 [] = .ok P) {k:Nat} (hg:Sp.gv P 0 [] = .error k):Sp.parseSpec s = .error (4,(k:Int)):=by
 rw[spec_read h hb hp]
 rcases gv_at P with ⟨i,h1,h2⟩ | ⟨h1,T,h2,_⟩
 ·rw[hg] at h2
  injection h2 with h2
  have hw:Sp.wrongSpec (Sp.says P) (Sp.numsFrom P 0)=(4,(k:Int)):=by unfold Sp.wrongSpec;rw[h1];simp only;rw[← h2]
  rw[hw];rfl
 ·rw[hg] at h2;cases h2
theorem spec_name {s:ByteArray} (h:¬ 4000 < s.size) (hb:Sp.bad s=none) {P:List (Option Sp.Ln)} (hp:Sp.plFrom (Sp.split s 10) 0 [] = .ok P) {T:Sp.Tb} (hg:Sp.gv P 0 [] = .ok T) {k:Nat} (he:Sp.ge T P 0 [] = .error k):Sp.parseSpec s = .error (5,(k:Int)):=by
 rw[spec_read h hb hp]
 rcases gv_at P with ⟨i,h1,h2⟩ | ⟨h1,T',h2,_,hP⟩
 ·rw[hg] at h2;cases h2
 ·rw[hg] at h2
  injection h2 with h2
  subst h2
  rcases ge_at hP with ⟨i,g1,g2⟩ | ⟨g1,g2⟩
  ·rw[he] at g2
   injection g2 with g2
   have hw:Sp.wrongSpec (Sp.says P) (Sp.numsFrom P 0)=(5,(k:Int)):=by unfold Sp.wrongSpec;rw[h1];simp only;rw[g1];simp only;rw[← g2]
   rw[hw];rfl
  ·rw[he] at g2;cases g2
structure Fine (s:ByteArray) (P:List (Option Sp.Ln)) (T:Sp.Tb) (E:List Sp.Ed):Prop where
 srt:Sp.tsorted T
 prm:T.Perm (Sp.verts (Sp.says P))
 tl:T.length=Sp.nv (Sp.says P)
 eq:E=Sp.edsOf (Sp.says P) (Sp.says P)
 el:E.length=Sp.edges (Sp.says P)
 lo:Sp.first (Sp.loose (Sp.says P)) (Sp.says P).length=none
 spec:Sp.parseSpec s=if 256 < Sp.edges (Sp.says P)∨64 < Sp.nv (Sp.says P) then .error (6,0) else .ok (Sp.says P)
theorem spec_fine {s:ByteArray} (h:¬ 4000 < s.size) (hb:Sp.bad s=none) {P:List (Option Sp.Ln)} (hp:Sp.plFrom (Sp.split s 10) 0 [] = .ok P) {T:Sp.Tb} (hg:Sp.gv P 0 [] = .ok T) {E:List Sp.Ed} (he:Sp.ge T P 0 [] = .ok E):Fine s P T E:=by
 rcases gv_at P with ⟨i,h1,h2⟩ | ⟨h1,T',h2,hS,hP⟩
 ·rw[hg] at h2;cases h2
 ·rw[hg] at h2
  injection h2 with h2
  subst h2
  rcases ge_at hP with ⟨i,g1,g2⟩ | ⟨g1,g2⟩
  ·rw[he] at g2;cases g2
  ·rw[he] at g2
   injection g2 with g2
   refine⟨hS,hP,by rw[hP.length_eq,Sp.verts_len],g2,by rw[g2,Sp.edsOf_len],g1,?_⟩
   rw[spec_read h hb hp]
   have hw:Sp.wrongSpec (Sp.says P) (Sp.numsFrom P 0)=if 256 < Sp.edges (Sp.says P)∨64 < Sp.nv (Sp.says P) then (6,0) else (0,0):=by unfold Sp.wrongSpec;rw[h1];simp only;rw[g1];rfl
   rw[hw]
   by_cases c:256 < Sp.edges (Sp.says P)∨64 < Sp.nv (Sp.says P)
   ·rw[if_pos c,if_pos c];rfl
   ·rw[if_neg c,if_neg c];rfl
end Go.Proofs.YteflnddphpjahaaGreatDoor
namespace Go.Proofs.YteflnddphpjahaaGreatDoor.Sp
open Go Go.RowKit
def noneK (k:List UInt8):Int:=if k=[109,105,110] then 9223372036854775807 else if k=[109,97,120] then -9223372036854775808 else 0
def joinK (k:List UInt8) (a b:Int):Int:=if k=[115,117,109] then wrap64 (a+b) else if (k=[109,105,110]∧b < a)∨(k=[109,97,120]∧a < b) then b else a
structure Pg where
 code:Nat→List (List UInt8)
 by':List UInt8
 al:List UInt8
structure Cfg where
 val:List Int
 rst:List Bool
 got:List Int
 inn:List Int
 all:Int
structure Tn where
 value:Int
 rests:Bool
 give:Int
 sent:List (Nat × Int)
def env0 (c:Cfg) (deg i step:Nat):Ev:=⟨c.val.getD i 0,c.val.getD i 0,c.inn.getD i 0,c.got.getD i 0,step,i,deg,c.all,0⟩
def Ev.setV (E:Ev) (v:Int):Ev:={ E with value:=v }
def Ev.setW (E:Ev) (v:Int):Ev:={ E with weight:=v }
def Ev.setO (E:Ev) (v:Int):Ev:={ E with old:=v }
def outE (Es:List Ed) (i:Nat):List Ed:=Es.filter (fun x=>x.frm == i)
def msgs (L:List (List UInt8)) (E:Ev):List Ed→Option (List (Nat × Int))
 | []=>some []
 | x :: r=>match ev L (E.setW x.n) with
  | none=>none
  | some m=>match msgs L E r with
   | none=>none
   | some l=>some ((x.to,m) :: l)
def tail34 (P:Pg) (e:Ev) (v:Int) (sent:List (Nat × Int)):Option Tn:=match ev (P.code 3) e with
 | none=>none
 | some h=>match ev (P.code 4) e with
  | none=>none
  | some g=>some ⟨v,h != 0,g,sent⟩
def turnE (P:Pg) (E:Ev) (es:List Ed):Option Tn :=
 match ev (P.code 0) E with
 | none=>none
 | some v=>match ev (P.code 1) (E.setV v) with
  | none=>none
  | some goes=>match (if goes=0 then some [] else msgs (P.code 2) (E.setV v) es) with
   | none=>none
   | some sent=>tail34 P (E.setV v) v sent
def turn (P:Pg) (Es:List Ed) (c:Cfg) (i step:Nat):Option Tn:=turnE P (env0 c (outE Es i).length i step) (outE Es i)
def awake (c:Cfg) (i step:Nat):Bool:=step == 0 || (!(c.rst.getD i false) || decide (0 < c.got.getD i 0))
structure Acc where
 val:List Int
 rst:List Bool
 all:Int
 sent:List (Nat × Int)
def stp (P:Pg) (Es:List Ed) (c:Cfg) (step:Nat):Nat→Except Nat Acc
 | 0=>.ok ⟨[],[],noneK P.al,[]⟩
 | k+1=>match stp P Es c step k with
  | .error i=>.error i
  | .ok a=>if awake c k step then (match turn P Es c k step with
    | none=>.error k
    | some t=>.ok ⟨a.val++[t.value],a.rst++[t.rests],joinK P.al a.all t.give,a.sent++t.sent⟩)
   else .ok ⟨a.val++[c.val.getD k 0],a.rst++[c.rst.getD k false],a.all,a.sent⟩
def toV (sent:List (Nat × Int)) (i:Nat):List (Nat × Int):=sent.filter (fun m=>m.1 == i)
def gotOf (sent:List (Nat × Int)) (i:Nat):Int:=((toV sent i).length:Int)
def innOf (P:Pg) (sent:List (Nat × Int)) (i:Nat):Int:=(toV sent i).foldl (fun x m=>joinK P.by' x m.2) (noneK P.by')
def nextC (P:Pg) (n:Nat) (a:Acc):Cfg:=⟨a.val,a.rst,(List.range n).map (gotOf a.sent),(List.range n).map (innOf P a.sent),a.all⟩
def first' (P:Pg) (vs:List Int):Cfg:=⟨vs,List.replicate vs.length false,List.replicate vs.length 0,List.replicate vs.length (noneK P.by'),noneK P.al⟩
def quiet (c:Cfg) (step:Nat):Bool:=(List.range c.val.length).all fun i=>!awake c i step
structure Res where
 outcome:Nat
 step:Nat
 vertex:Nat
 vals:List Int
def rgo (P:Pg) (Es:List Ed) (cap:Nat):Nat→Nat→Cfg→Res
 | 0,_,_=>⟨0,0,0,[]⟩
 | g+1,step,c=>if quiet c step then ⟨1,step,0,c.val⟩ else if cap≤step then ⟨2,step,0,c.val⟩ else
  match stp P Es c step c.val.length with
  | .error i=>⟨3,step,i,c.val⟩
  | .ok a=>rgo P Es cap g (step+1) (nextC P c.val.length a)
def runR (P:Pg) (vs:List Int) (Es:List Ed) (cap:Nat):Res:=rgo P Es cap (cap+1) 0 (first' P vs)
theorem mrun_vi {L:List (List UInt8)} {E:Ev} (hE:EvOk E) (hx:∀ x n,number x=some n→i64 n):∀ (g:Nat) (s t:Ms),VInv s→mrun L E g s=some t→VInv t:=by
 intro g
 induction g with
 | zero=>intro s t _ h;cases h
 | succ g ih =>
  intro s t hs h
  rw[mrun] at h
  split at h
  ·injection h with h;subst h;exact hs
  ·split at h
   ·cases h
   ·rename_i s' hs'
    exact ih _ _ (mstep_vinv hE hx hs hs') h
theorem ev_ok {L:List (List UInt8)} {E:Ev} (hE:EvOk E) (hx:∀ x n,number x=some n→i64 n) {v:Int} (h:ev L E=some v):i64 v:=by
 unfold ev at h
 cases hm:mrun L E 201 ⟨0,200,[],[]⟩ with
 | none=>rw[hm] at h;cases h
 | some t =>
  rw[hm] at h
  have:=mrun_vi hE hx _ _ _ ⟨fun v hv=>(by cases hv),fun q hq=>(by cases hq)⟩ hm
  exact this.T v (List.mem_of_head? (by simpa using h))
theorem msgs_append (L:List (List UInt8)) (E:Ev):∀ (A B:List Ed),msgs L E (A++B)=match msgs L E A with
  | none=>none
  | some a=>match msgs L E B with
   | none=>none
   | some b=>some (a++b):=by
 intro A
 induction A with
 | nil=>intro B;simp only[List.nil_append,msgs];cases msgs L E B <;> rfl
 | cons x r ih =>
  intro B
  simp only[List.cons_append,msgs]
  cases ev L (E.setW x.n) with
  | none=>rfl
  | some m =>
   simp only[ih B]
   cases msgs L E r with
   | none=>rfl
   | some a=>simp only;cases msgs L E B <;> rfl
theorem msgs_len {L:List (List UInt8)} {E:Ev}:∀ {A:List Ed} {l:List (Nat × Int)},msgs L E A=some l→l.length=A.length:=by
 intro A
 induction A with
 | nil=>intro l h;simp only[msgs] at h;injection h with h;subst h;rfl
 | cons x r ih =>
  intro l h
  simp only[msgs] at h
  split at h
  ·cases h
  ·split at h
   ·cases h
   ·rename_i l' hl'
    injection h with h;subst h
    simp[ih hl']
theorem msgs_to {L:List (List UInt8)} {E:Ev}:∀ {A:List Ed} {l:List (Nat × Int)},msgs L E A=some l→l.map Prod.fst=A.map (·.to):=by
 intro A
 induction A with
 | nil=>intro l h;simp only[msgs] at h;injection h with h;subst h;rfl
 | cons x r ih =>
  intro l h
  simp only[msgs] at h
  split at h
  ·cases h
  ·split at h
   ·cases h
   ·rename_i l' hl'
    injection h with h;subst h
    simp[ih hl']
structure CfgOk (n:Nat) (c:Cfg):Prop where
 lv:c.val.length=n
 lr:c.rst.length=n
 lg:c.got.length=n
 li:c.inn.length=n
 v:∀ x ∈ c.val,i64 x
 g:∀ x ∈ c.got,0≤x∧x≤100000
 i:∀ x ∈ c.inn,i64 x
 a:i64 c.all
theorem noneK_ok (k:List UInt8):i64 (noneK k):=by unfold noneK i64;split <;> (try split) <;> omega
theorem joinK_ok (k:List UInt8) {a b:Int} (ha:i64 a) (hb:i64 b):i64 (joinK k a b):=by
 unfold joinK
 split
 ·exact i64_wrap _
 ·split
  ·exact hb
  ·exact ha
theorem first_ok (P:Pg) (vs:List Int) (h:∀ x ∈ vs,i64 x):CfgOk vs.length (first' P vs):=by
 refine⟨rfl,by simp[first'],by simp[first'],by simp[first'],h,?_,?_,noneK_ok _⟩
 ·intro x hx;rw[List.eq_of_mem_replicate hx];omega
 ·intro x hx;rw[List.eq_of_mem_replicate hx];exact noneK_ok _
structure JobOk (P:Pg) (Es:List Ed) (n:Nat):Prop where
 good:∀ i,i < 5→Good (P.code i)
 nw:∀ i,i < 5→i≠2→fmd false (P.code i) 0=true
 es:Es.length≤256
 n64:n≤64
 ed:∀ x ∈ Es,x.frm < n∧x.to < n∧i64 x.n
 byK:P.by' ∈ combsL
 alK:P.al ∈ combsL
theorem getD_mem {α : Type} {l:List α} {i:Nat} {d : α} (h:i < l.length):l.getD i d ∈ l:=by
 rw[List.getD_eq_getElem?_getD,List.getElem?_eq_getElem h];exact List.getElem_mem h
theorem outE_len (Es:List Ed) (i:Nat):(outE Es i).length≤Es.length:=List.length_filter_le _ _
theorem env0_ok {c:Cfg} {n:Nat} (h:CfgOk n c) {deg i step:Nat} (hi:i < n) (hd:deg≤100000) (hn:n≤64) (hs:step≤100000):EvOk (env0 c deg i step):=by
 have h1:=h.g _ (getD_mem (d:=0) (i:=i) (by rw[h.lg];exact hi))
 refine⟨h.v _ (getD_mem (by rw[h.lv];exact hi)),h.v _ (getD_mem (by rw[h.lv];exact hi)),h.i _ (getD_mem (by rw[h.li];exact hi)),?_,?_,?_,?_,h.a,?_⟩
 ·unfold i64 env0;simp only;omega
 ·unfold i64 env0;simp only;omega
 ·unfold i64 env0;simp only;omega
 ·unfold i64 env0;simp only;omega
 ·unfold i64 env0;simp only;omega
theorem EvOk.setV {E:Ev} (h:EvOk E) {v:Int} (hv:i64 v):EvOk (E.setV v):=⟨hv,h.old,h.inn,h.got,h.step,h.id,h.deg,h.all,h.weight⟩
theorem EvOk.setW {E:Ev} (h:EvOk E) {v:Int} (hv:i64 v):EvOk (E.setW v):=⟨h.value,h.old,h.inn,h.got,h.step,h.id,h.deg,h.all,hv⟩
theorem msgs_ok {L:List (List UInt8)} {E:Ev} (hE:EvOk E) (hx:∀ x n,number x=some n→i64 n):∀ {A:List Ed} {l:List (Nat × Int)},(∀ x ∈ A,i64 x.n)→msgs L E A=some l→∀ m ∈ l,i64 m.2:=by
 intro A
 induction A with
 | nil=>intro l _ h m hm;simp only[msgs] at h;injection h with h;subst h;cases hm
 | cons x r ih =>
  intro l ha h m hm
  simp only[msgs] at h
  split at h
  ·cases h
  ·rename_i v hv
   split at h
   ·cases h
   ·rename_i l' hl'
    injection h with h;subst h
    rcases List.mem_cons.1 hm with rfl | hm
    ·exact ev_ok (hE.setW (ha x (List.mem_cons_self ..))) hx hv
    ·exact ih (fun y hy=>ha y (List.mem_cons_of_mem _ hy)) hl' m hm
structure TnOk (n:Nat) (t:Tn):Prop where
 v:i64 t.value
 g:i64 t.give
 l:t.sent.length≤256
 s:∀ m ∈ t.sent,m.1 < n∧i64 m.2
theorem turn_ok {P:Pg} {Es:List Ed} {n:Nat} (hj:JobOk P Es n) (hx:∀ x n,number x=some n→i64 n) {c:Cfg} (hc:CfgOk n c) {i step:Nat} (hi:i < n) (hs:step≤100000) {t:Tn} (h:turn P Es c i step=some t):TnOk n t:=by
 have hE:=env0_ok hc (deg:=(outE Es i).length) hi (by have:=outE_len Es i;have:=hj.es;omega) hj.n64 hs
 unfold turn turnE at h
 split at h
 ·cases h
 ·rename_i v hv
  have hvo:=ev_ok hE hx hv
  split at h
  ·cases h
  ·rename_i goes hg
   split at h
   ·cases h
   ·rename_i sent hsent
    have hso:sent.length≤256∧∀ m ∈ sent,m.1 < n∧i64 m.2:=by
     split at hsent
     ·injection hsent with hsent;subst hsent;exact⟨by simp,fun m hm=>(by cases hm)⟩
     ·refine⟨?_,fun m hm=>⟨?_,?_⟩⟩
      ·rw[msgs_len hsent];have:=outE_len Es i;have:=hj.es;omega
      ·have h1:=msgs_to hsent
       have h2:m.1 ∈ sent.map Prod.fst:=List.mem_map.2 ⟨m,hm,rfl⟩
       rw[h1] at h2
       obtain⟨x,hx1,hx2⟩:=List.mem_map.1 h2
       have:=(hj.ed x (List.mem_filter.1 hx1).1).2.1
       omega
      ·exact msgs_ok (hE.setV hvo) hx (fun x hx1=>(hj.ed x (List.mem_filter.1 hx1).1).2.2) hsent m hm
    unfold tail34 at h
    split at h
    ·cases h
    ·rename_i hh hhh
     split at h
     ·cases h
     ·rename_i gg hgg
      injection h with h;subst h
      exact⟨hvo,ev_ok (hE.setV hvo) hx hgg,hso.1,hso.2⟩
structure AccOk (n k:Nat) (a:Acc):Prop where
 lv:a.val.length=k
 lr:a.rst.length=k
 v:∀ x ∈ a.val,i64 x
 al:i64 a.all
 l:a.sent.length≤k * 256
 s:∀ m ∈ a.sent,m.1 < n∧i64 m.2
theorem stp_ok {P:Pg} {Es:List Ed} {n:Nat} (hj:JobOk P Es n) (hx:∀ x n,number x=some n→i64 n) {c:Cfg} (hc:CfgOk n c) {step:Nat} (hs:step≤100000):∀ (k:Nat),k≤n→∀ a,stp P Es c step k = .ok a→AccOk n k a:=by
 intro k
 induction k with
 | zero =>
  intro _ a h
  simp only[stp] at h
  injection h with h;subst h
  exact⟨rfl,rfl,fun x hx=>(by cases hx),noneK_ok _,by simp,fun m hm=>(by cases hm)⟩
 | succ k ih =>
  intro hk a h
  simp only[stp] at h
  split at h
  ·cases h
  ·rename_i a0 h0
   have A:=ih (by omega) a0 h0
   split at h
   ·split at h
    ·cases h
    ·rename_i t ht
     injection h with h;subst h
     have T:=turn_ok hj hx hc (by omega) hs ht
     refine⟨by simp[A.lv],by simp[A.lr],?_,joinK_ok _ A.al T.g,?_,?_⟩
     ·intro x hx'
      rcases List.mem_append.1 hx' with h' | h'
      ·exact A.v x h'
      ·rw[List.mem_singleton] at h';rw[h'];exact T.v
     ·simp only[List.length_append];have:=A.l;have:=T.l;omega
     ·intro m hm
      rcases List.mem_append.1 hm with h' | h'
      ·exact A.s m h'
      ·exact T.s m h'
   ·injection h with h;subst h
    refine⟨by simp[A.lv],by simp[A.lr],?_,A.al,?_,A.s⟩
    ·intro x hx'
     rcases List.mem_append.1 hx' with h' | h'
     ·exact A.v x h'
     ·rw[List.mem_singleton] at h';rw[h'];exact hc.v _ (getD_mem (by rw[hc.lv];omega))
    ·have:=A.l;simp only;omega
theorem foldl_ok (k:List UInt8):∀ (l:List (Nat × Int)) (a:Int),i64 a→(∀ m ∈ l,i64 m.2)→i64 (l.foldl (fun x m=>joinK k x m.2) a):=by
 intro l
 induction l with
 | nil=>intro a ha _;exact ha
 | cons m r ih =>
  intro a ha hm
  exact ih _ (joinK_ok k ha (hm m (List.mem_cons_self ..))) (fun x hx=>hm x (List.mem_cons_of_mem _ hx))
theorem innOf_ok {P:Pg} {n:Nat} {sent:List (Nat × Int)} (h:∀ m ∈ sent,m.1 < n∧i64 m.2) (i:Nat):i64 (innOf P sent i):=
 foldl_ok _ _ _ (noneK_ok _) (fun m hm=>(h m (List.mem_filter.1 hm).1).2)
theorem gotOf_ok (sent:List (Nat × Int)) (i:Nat):0≤gotOf sent i∧gotOf sent i≤(sent.length:Int):=by
 unfold gotOf toV
 have:=List.length_filter_le (fun m:Nat × Int=>m.1 == i) sent
 omega
theorem next_ok {P:Pg} {Es:List Ed} {n:Nat} (hj:JobOk P Es n) {a:Acc} (A:AccOk n n a):CfgOk n (nextC P n a):=by
 refine⟨A.lv,A.lr,by simp[nextC],by simp[nextC],A.v,?_,?_,A.al⟩
 ·intro x hx
  obtain⟨i,_,rfl⟩:=List.mem_map.1 hx
  have:=gotOf_ok a.sent i
  have h1:=A.l
  have h2:=hj.n64
  have h3:n * 256≤64 * 256:=Nat.mul_le_mul_right _ h2
  omega
 ·intro x hx
  obtain⟨i,_,rfl⟩:=List.mem_map.1 hx
  exact innOf_ok A.s i
theorem gotOf_snoc (sent:List (Nat × Int)) (m:Nat × Int) (i:Nat):gotOf (sent++[m]) i=if m.1=i then gotOf sent i+1 else gotOf sent i:=by
 unfold gotOf toV
 rw[List.filter_append]
 by_cases c:m.1=i
 ·rw[if_pos c];simp[c]
 ·rw[if_neg c];simp[c]
theorem innOf_snoc (P:Pg) (sent:List (Nat × Int)) (m:Nat × Int) (i:Nat):innOf P (sent++[m]) i=if m.1=i then joinK P.by' (innOf P sent i) m.2 else innOf P sent i:=by
 unfold innOf toV
 rw[List.filter_append]
 by_cases c:m.1=i
 ·rw[if_pos c];simp[c]
 ·rw[if_neg c];simp[c]
theorem first_inv {p:Nat→Bool} {n:Nat} (h:first p n=none):∀ j,j < n→p j=false:=by
 intro j hj
 unfold first at h
 rw[List.find?_eq_none] at h
 have:=h j (List.mem_range.2 hj)
 simpa using this
def pgOf (s:ByteArray):Pg:=⟨codeOf s,(codeOf s 5).headD [],(codeOf s 6).headD []⟩
theorem comp_zero {s:ByteArray} (h:(comp s).1=0):s.size≤2000∧(split s 10).length=7∧(∀ j,j < 7→lineOk j ((split s 10).getD j ⟨#[]⟩)=true)∧∀ j,j < 5→keeps (codeOf s j)=true:=by
 unfold comp at h
 by_cases c1:2000 < s.size
 ·rw[if_pos c1] at h;exact absurd h (by decide)
 ·rw[if_neg c1] at h
  cases h1:first (fun i=>!lineOk i ((split s 10).getD i ⟨#[]⟩)) (min 7 (split s 10).length) with
  | some i=>rw[h1] at h;exact absurd h (by simp)
  | none =>
   rw[h1] at h
   simp only at h
   by_cases c2:7 < (split s 10).length
   ·rw[if_pos c2] at h;exact absurd h (by decide)
   ·rw[if_neg c2] at h
    by_cases c3:(split s 10).length < 7
    ·rw[if_pos c3] at h;exact absurd h (by simp)
    ·rw[if_neg c3] at h
     cases h2:first (fun i=>decide (hgt (codeOf s i) (codeOf s i).length 0 (codeOf s i).length 0≠some 1)) 5 with
     | some i=>rw[h2] at h;exact absurd h (by simp)
     | none =>
      refine⟨by omega,by omega,fun j hj=>?_,fun j hj=>?_⟩
      ·have:=first_inv h1 j (by omega)
       simpa using this
      ·have:=first_inv h2 j hj
       unfold keeps
       simpa using this
theorem line_code {s:ByteArray} (h:(comp s).1=0) {i:Nat} (hi:i < 5):fmd (i == 2) (codeOf s i) 0=true:=by
 obtain⟨_,_,h3,_⟩:=comp_zero h
 have h1:=h3 i (by omega)
 unfold lineOk at h1
 rw[if_neg (by omega)] at h1
 simp only[Bool.and_eq_true] at h1
 exact h1.2.1
theorem line_comb {s:ByteArray} (h:(comp s).1=0) {i:Nat} (hi:5≤i) (h7:i < 7):(codeOf s i).length=1∧(codeOf s i).headD [] ∈ combsL:=by
 obtain⟨_,_,h3,_⟩:=comp_zero h
 have h1:=h3 i h7
 unfold lineOk at h1
 rw[if_pos hi] at h1
 simp only[Bool.and_eq_true,decide_eq_true_eq] at h1
 obtain⟨_,h4,h5⟩:=h1
 unfold codeOf
 refine⟨by rw[List.length_map];exact h4,?_⟩
 generalize (ws ((split s 10).getD i ⟨#[]⟩)).tail=l at *
 match l,h4 with
 | [z],_=>exact h5
theorem code_len {s:ByteArray} (h:(comp s).1=0) (i:Nat):(codeOf s i).length≤4000:=by
 obtain⟨hs,_,_,_⟩:=comp_zero h
 unfold codeOf ws
 have h1:=(split_len ((split s 10).getD i ⟨#[]⟩) 32).2
 rw[List.length_map,List.length_tail]
 by_cases hl:i < (split s 10).length
 ·have hm:(split s 10).getD i ⟨#[]⟩ ∈ split s 10:=by rw[List.getD_eq_getElem?_getD,List.getElem?_eq_getElem hl];exact List.getElem_mem hl
  have:=cut_size s 10 _ hm
  omega
 ·have he:(split s 10).getD i ⟨#[]⟩=⟨#[]⟩:=by rw[List.getD_eq_getElem?_getD,List.getElem?_eq_none (by omega)];rfl
  rw[he] at h1 ⊢
  have hz:(⟨#[]⟩:ByteArray).size=0:=rfl
  omega
theorem code_good {s:ByteArray} (h:(comp s).1=0) {i:Nat} (hi:i < 5):Good (codeOf s i):=by
 have h1:=line_code h hi
 have hf:fmd true (codeOf s i) 0=true:=by
  by_cases c:i=2
  ·subst c;exact h1
  ·have e:(i == 2)=false:=beq_eq_false_iff_ne.2 c
   rw[e] at h1
   exact fmd_weight _ _ h1
 obtain⟨_,_,_,h4⟩:=comp_zero h
 have h5:=h4 i hi
 refine⟨hf,?_,code_len h i⟩
 rcases keeps_drun hf with h6 | h6
 ·exact h6.2
 ·rw[h5] at h6;exact absurd h6.1 (by decide)
theorem code_nw {s:ByteArray} (h:(comp s).1=0) {i:Nat} (hi:i < 5) (h2:i≠2):fmd false (codeOf s i) 0=true:=by
 have h1:=line_code h hi
 have e:(i == 2)=false:=beq_eq_false_iff_ne.2 h2
 rw[e] at h1
 exact h1
theorem eAt_mem {L:List Ln} {a b i:Nat} {x:Ed} (h:x ∈ eAt L a b i):x.frm=a∧x.to=b∧∃ l ∈ L,x.n=l.n:=by
 unfold eAt at h
 obtain⟨l,hl,rfl⟩:=List.mem_map.1 h
 exact⟨rfl,rfl,l,List.mem_of_mem_take (List.mem_filter.1 hl).1,rfl⟩
theorem eRow_mem {L:List Ln} {a:Nat} {x:Ed}:∀ b,x ∈ eRow L a b→x.frm=a∧x.to < b∧∃ l ∈ L,x.n=l.n:=by
 intro b
 induction b with
 | zero=>intro h;cases h
 | succ b ih =>
  intro h
  rcases List.mem_append.1 h with h | h
  ·obtain⟨h1,h2,h3⟩:=ih h;exact⟨h1,by omega,h3⟩
  ·obtain⟨h1,h2,h3⟩:=eAt_mem h;exact⟨h1,by omega,h3⟩
theorem es_mem {L:List Ln} {n:Nat} {x:Ed}:∀ k,x ∈ es L n k→x.frm < k∧x.to < n∧∃ l ∈ L,x.n=l.n:=by
 intro k
 induction k with
 | zero=>intro h;cases h
 | succ k ih =>
  intro h
  rcases List.mem_append.1 h with h | h
  ·obtain⟨h1,h2,h3⟩:=ih h;exact⟨by omega,h2,h3⟩
  ·obtain⟨h1,h2,h3⟩:=eRow_mem n h;exact⟨by omega,h2,h3⟩
theorem vs_mem {L:List Ln} {x:Ln}:∀ k,x ∈ vs L k→x ∈ L:=by
 intro k
 induction k with
 | zero=>intro h;cases h
 | succ k ih =>
  intro h
  rcases List.mem_append.1 h with h | h
  ·exact ih h
  ·unfold vAt at h
   exact List.mem_of_mem_take (List.mem_filter.1 h).1
theorem lineOf_bd {s:ByteArray} {l:Ln} (h:lineOf s=some l) : -1000000000≤l.n∧l.n≤1000000000:=by
 have hfin:∀ e a b j,fin s e a b j=some l→-1000000000≤l.n∧l.n≤1000000000:=by
  intro e a b j hf
  unfold fin at hf
  split at hf
  ·cases hn:number (s.extract (j+1) s.size).data.toList with
   | none=>rw[hn] at hf;cases hf
   | some n =>
    rw[hn] at hf
    injection hf with hf
    subst hf
    exact number_bd hn
  ·cases hf
 unfold lineOf at h
 split at h
 ·cases h
 ·split at h
  ·split at h
   ·cases h
   ·exact hfin _ _ _ _ h
  ·exact hfin _ _ _ _ h
theorem plFrom_bd:∀ (ls:List ByteArray) (k:Nat) (P Q:List (Option Ln)),(∀ l,some l ∈ P→-1000000000≤l.n∧l.n≤1000000000)→plFrom ls k P = .ok Q→∀ l,some l ∈ Q→-1000000000≤l.n∧l.n≤1000000000:=by
 intro ls
 induction ls with
 | nil=>intro k P Q hP h;injection h with h;subst h;exact hP
 | cons x r ih =>
  intro k P Q hP h
  simp only[plFrom] at h
  split at h
  ·cases h
  ·rename_i p hp
   refine ih _ _ _ ?_ h
   intro l hl
   rcases List.mem_append.1 hl with hl | hl
   ·exact hP l hl
   ·rw[List.mem_singleton] at hl
    subst hl
    unfold plOf at hp
    split at hp
    ·cases hp
    ·cases hlo:lineOf x with
     | none=>rw[hlo] at hp;cases hp
     | some l' =>
      rw[hlo] at hp
      injection hp with hp
      injection hp with hp
      subst hp
      exact lineOf_bd hlo
end Go.Proofs.YteflnddphpjahaaGreatDoor.Sp
namespace Go.Proofs.YteflnddphpjahaaGreatDoor
open Go.RowKit
theorem parse_facts {s:ByteArray} {L:List Sp.Ln} (h:Sp.parseSpec s = .ok L):(Sp.vs L (Sp.nv L)).length=Sp.nv L∧Sp.nv L≤64∧∀ l ∈ L,-1000000000≤l.n∧l.n≤1000000000:=by
 by_cases c:4000 < s.size
 ·rw[spec_long c] at h;cases h
 ·cases hb:Sp.bad s with
  | some i=>rw[spec_bad c hb] at h;cases h
  | none =>
   cases hp:Sp.plFrom (Sp.split s 10) 0 [] with
   | error k=>rw[spec_form c hb hp] at h;cases h
   | ok P =>
    cases hg:Sp.gv P 0 [] with
    | error k=>rw[spec_twice c hb hp hg] at h;cases h
    | ok T =>
     cases he:Sp.ge T P 0 [] with
     | error k=>rw[spec_name c hb hp hg he] at h;cases h
     | ok E =>
      have F:=spec_fine c hb hp hg he
      have hsp:=F.spec
      rw[h] at hsp
      by_cases c2:256 < Sp.edges (Sp.says P)∨64 < Sp.nv (Sp.says P)
      ·rw[if_pos c2] at hsp;cases hsp
      ·rw[if_neg c2] at hsp
       injection hsp with hsp
       subst hsp
       refine⟨?_,by omega,fun l hl=>?_⟩
       ·have h1:=congrArg List.length (Sp.vs_eq F.srt F.prm)
        rw[List.length_map] at h1
        rw[h1,F.tl]
       ·unfold Sp.says at hl
        rw[List.mem_filterMap] at hl
        obtain⟨o,ho,e⟩:=hl
        simp only[id] at e
        subst e
        exact Sp.plFrom_bd _ _ _ _ (fun l hl=>by cases hl) hp l ho
end Go.Proofs.YteflnddphpjahaaGreatDoor
