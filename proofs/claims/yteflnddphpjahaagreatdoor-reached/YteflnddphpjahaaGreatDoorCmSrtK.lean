import Derived.Test.YteflnddphpjahaaGreatDoorCmSrtFtoSrtJ
import Derived.BigRegion
import Derived.BigQuiet
import Derived.Deep.RegionHeld3
import Derived.Deep.DeepCutAuto
import Derived.Deep.DeepMust
set_option linter.unusedVariables false
set_option linter.unusedSimpArgs false
set_option maxRecDepth 100000
set_option maxHeartbeats 16000000
namespace Go.Proofs.YteflnddphpjahaaGreatDoor
open Go.RowKit
theorem rot_none {X:List Sp.Ed} {a m b:Nat} (h1:a≤m) (h2:m≤b) (h3:b≤X.length) (h:¬ (a < m∧m < b)):rot X a m b=X:=by
 apply List.ext_getElem?
 intro t
 rw[rot_get X a m b h1 h2 h3 t]
 by_cases c1:a≤t∧t < a+(b - m)
 ·rw[if_pos c1];congr 1;omega
 ·rw[if_neg c1]
  by_cases c2:a+(b - m)≤t∧t < b
  ·rw[if_pos c2];congr 1;omega
  ·rw[if_neg c2]
def SymAll (g cap B N n:Nat):Prop := ∀ (a m b:Nat) (X:List Sp.Ed) (w:World),b - a≤n→X.length=N→w.ownsRow B 67 3 (.slice (some ⟨g,0,none⟩) N cap) N (edCells X)→a < m→m < b→b≤N→Ord X a m→Ord X m b →
  Calls Tryz.prog 252 #[.slice (some ⟨g,0,none⟩) N cap,.int .i64 a,.int .i64 m,.int .i64 b,.func (.func 118) #[] #[]] w (SymPost g cap B N a b X w)
theorem symBig_any (g cap B a m b N n:Nat) (X:List Sp.Ed) (w:World) (ih:SymAll g cap B N n) (hn:b - a≤n+1) (hX:X.length=N) (h:w.ownsRow B 67 3 (.slice (some ⟨g,0,none⟩) N cap) N (edCells X)) (ham:a+1 < m) (hmb:m+1 < b) (hb:b≤N) (hl:N≤5000) (hO1:Hid (Ord X a m)) (hO2:Hid (Ord X m b)) :
  Calls Tryz.prog 252 #[.slice (some ⟨g,0,none⟩) N cap,.int .i64 a,.int .i64 m,.int .i64 b,.func (.func 118) #[] #[]] w (SymPost g cap B N a b X w):=by
 have HX:=hde hX
 have HIH:=hde ih
 have hw0:IntKind.i64.wrap ((m:Int) - (a:Int))=(m:Int) - (a:Int):=by rw[IntKind.wrap_i64];omega
 have hw00:((m:Int) - (a:Int) == 1)=false:=by rw[beq_eq_false_iff_ne];omega
 have hw1:IntKind.i64.wrap ((b:Int) - (m:Int))=(b:Int) - (m:Int):=by rw[IntKind.wrap_i64];omega
 have hw11:((b:Int) - (m:Int) == 1)=false:=by rw[beq_eq_false_iff_ne];omega
 obtain⟨mid,HMID⟩:∃ mid,Hid (mid=(a+b) / 2):=⟨_,rfl⟩
 obtain⟨nn,HNN⟩:∃ nn,Hid (nn=mid+m):=⟨_,rfl⟩
 obtain⟨p,HP⟩:∃ p,Hid (p=mid+m - 1):=⟨_,rfl⟩
 obtain⟨s0,HS0⟩:∃ s0,Hid (s0=if mid < m then mid+m - b else a):=⟨_,rfl⟩
 obtain⟨r0,HR0⟩:∃ r0,Hid (r0=if mid < m then mid else m):=⟨_,rfl⟩
 have hmid:((a:Int)+(b:Int)) / 2=(mid:Int):=by have:=uh HMID;omega
 have hnn:IntKind.i64.wrap ((mid:Int)+(m:Int))=(nn:Int):=by have:=uh HMID;have:=uh HNN;rw[IntKind.wrap_i64];omega
 have hp:IntKind.i64.wrap ((nn:Int) - 1)=(p:Int):=by have:=uh HMID;have:=uh HNN;have:=uh HP;rw[IntKind.wrap_i64];omega
 have hsr:s0≤r0∧a≤s0∧r0≤m∧p < b+s0∧r0+m≤p+1∧mid < b∧a < mid:=by
  have e1:=uh HMID;have e2:=uh HP;have e3:=uh HS0;have e4:=uh HR0
  by_cases c:mid < m
  ·rw[if_pos c] at e3 e4;omega
  ·rw[if_neg c] at e3 e4;omega
 obtain⟨k1,k2,k3,k4,k5,k6,k7⟩:=hsr
 clear hX ih
 go_enter Tryz.func252,Tryz.ntmps252
 go_upto_if 140 with fail
 go_cut [20,21] (fun u v wx=>u = .int .i64 s0∧v = .int .i64 r0∧wx=w)
 case first =>
  as_aux_lemma =>
   by_cases c:mid < m
   ·have cz:(mid:Int) < (m:Int):=by omega
    have hs0:IntKind.i64.wrap ((nn:Int) - (b:Int))=(s0:Int):=by have:=uh HMID;have:=uh HNN;have e3:=uh HS0;rw[if_pos c] at e3;rw[IntKind.wrap_i64];omega
    have hr0:r0=mid:=by have e4:=uh HR0;rw[if_pos c] at e4;exact e4
    subst hr0
    go_wp2
    go_meet
    exact⟨rfl,rfl,rfl⟩
   ·have cz:¬ (mid:Int) < (m:Int):=by omega
    have hr0:r0=m:=by have e4:=uh HR0;rw[if_neg c] at e4;exact e4
    have hs0:s0=a:=by have e4:=uh HS0;rw[if_neg c] at e4;exact e4
    subst hr0 hs0
    go_wp2
    go_meet
    exact⟨rfl,rfl,rfl⟩
 case rest =>
 obtain⟨rfl,rfl,hwc⟩:=hcut
 obtain rfl:=hwc.symm
 go_wp2
 go_loopw [20,21] (fun u v wr=>∃ (s r:Nat),u = .int .i64 s∧v = .int .i64 r∧s0≤s∧s≤r∧r≤r0∧wr.ownsRow B 67 3 (.slice (some ⟨g,0,none⟩) N cap) N (edCells X)∧w.grownBy wr (some g)∧Hid (∀ x y,s0 < s→X[s - 1]? = some x→X[p - (s - 1)]? = some y→¬ ltE y x)∧Hid (∀ x y,r < r0→X[r]? = some x→X[p - r]? = some y→ltE y x)) (fun u v _=>(intOf v - intOf u).toNat)
 case atStart=>exact⟨s0,r0,rfl,rfl,Nat.le_refl _,k1,Nat.le_refl _,h,grown_refl _ _,fun x y h1=>by omega,fun x y h1=>by omega⟩
 case round =>
  obtain⟨s,r,rfl,rfl,hss,hsr,hrr,ho,hgr,HLO,HHI⟩:=hrel
  by_cases hlt:s < r
  ·have hltz:(s:Int) < (r:Int):=by omega
   obtain⟨c,HCQ⟩:∃ c,Hid (c=(s+r) / 2):=⟨_,rfl⟩
   obtain⟨pc,HPC⟩:∃ pc,Hid (pc=p - c):=⟨_,rfl⟩
   have q1:s≤c:=by have:=uh HCQ;omega
   have q2:c < r:=by have:=uh HCQ;omega
   have q3:pc < b:=by have:=uh HPC;omega
   have q4:m≤pc:=by have:=uh HPC;omega
   have hc:((s:Int)+(r:Int)) / 2=(c:Int):=by have:=uh HCQ;omega
   have hpc:IntKind.i64.wrap ((p:Int) - (c:Int))=(pc:Int):=by have:=uh HPC;rw[IntKind.wrap_i64];omega
   have hq5:(c:Int) < (N:Int):=by omega
   have hq6:(pc:Int) < (N:Int):=by omega
   obtain⟨x1,x0,⟨c0,c1,c2⟩,⟨d0,d1,d2⟩,_,HXX⟩:=own_sw (uh HX) ho pc c (by omega) (by omega)
   obtain⟨cc,hcc⟩:∃ cc,cmpE x1 x0=cc:=⟨_,rfl⟩
   have HC:=hde hcc
   have HLT:=hde (ltE_iff x1 x0)
   rw[hcc] at HLT
   clear hcc
   have hgz:g < wr.heap.size:=World.block_lt_of_cell? _ _ c0
   by_cases hneg:cc < 0
   ·as_aux_lemma =>
     go_wp2_with fail
     go_region_held3 (fun w'=>(w'.cell? ⟨g,pc * 3,none⟩=some (.int .i64 (x1.frm:Int))∧w'.cell? ⟨g,pc * 3+1,none⟩=some (.int .i64 (x1.to:Int))∧w'.cell? ⟨g,pc * 3+2,none⟩=some (.int .i64 x1.n))∧(w'.cell? ⟨g,c * 3,none⟩=some (.int .i64 (x0.frm:Int))∧w'.cell? ⟨g,c * 3+1,none⟩=some (.int .i64 (x0.to:Int))∧w'.cell? ⟨g,c * 3+2,none⟩=some (.int .i64 x0.n)))
      (first | (go_keep;done) | (exact⟨⟨(hb2.cell (p:=⟨g,_,none⟩) hgz).trans c0,(hb2.cell (p:=⟨g,_,none⟩) hgz).trans c1,(hb2.cell (p:=⟨g,_,none⟩) hgz).trans c2⟩,⟨(hb2.cell (p:=⟨g,_,none⟩) hgz).trans d0,(hb2.cell (p:=⟨g,_,none⟩) hgz).trans d1,(hb2.cell (p:=⟨g,_,none⟩) hgz).trans d2⟩⟩))
      (first | (go_at_call 118;refine(edgeCmp_any x1 x0 _).mono ?_;rintro e w2 ⟨rfl,hb2⟩;rw[uh HC]))
     have hb3:Below wr.heap.size wr w2:=(Below.refl _ _).drew.trans hb2
     go_wp2
     go_roundw
     case rel =>
      refine⟨s,c,rfl,rfl,hss,by omega,by omega,obl ho hb3,grown_trans hgr (grown_below hb3),HLO,?_⟩
      intro x y h1 hx hy
      rw[(uh HXX).2] at hx
      rw[← uh HPC,(uh HXX).1] at hy
      injection hx with hx
      injection hy with hy
      subst hx hy
      exact(uh HLT).1 hneg
     case measure=>simp[intOf];omega
   ·as_aux_lemma =>
     go_wp2_with fail
     go_region_held3 (fun w'=>(w'.cell? ⟨g,pc * 3,none⟩=some (.int .i64 (x1.frm:Int))∧w'.cell? ⟨g,pc * 3+1,none⟩=some (.int .i64 (x1.to:Int))∧w'.cell? ⟨g,pc * 3+2,none⟩=some (.int .i64 x1.n))∧(w'.cell? ⟨g,c * 3,none⟩=some (.int .i64 (x0.frm:Int))∧w'.cell? ⟨g,c * 3+1,none⟩=some (.int .i64 (x0.to:Int))∧w'.cell? ⟨g,c * 3+2,none⟩=some (.int .i64 x0.n)))
      (first | (go_keep;done) | (exact⟨⟨(hb2.cell (p:=⟨g,_,none⟩) hgz).trans c0,(hb2.cell (p:=⟨g,_,none⟩) hgz).trans c1,(hb2.cell (p:=⟨g,_,none⟩) hgz).trans c2⟩,⟨(hb2.cell (p:=⟨g,_,none⟩) hgz).trans d0,(hb2.cell (p:=⟨g,_,none⟩) hgz).trans d1,(hb2.cell (p:=⟨g,_,none⟩) hgz).trans d2⟩⟩))
      (first | (go_at_call 118;refine(edgeCmp_any x1 x0 _).mono ?_;rintro e w2 ⟨rfl,hb2⟩;rw[uh HC]))
     have hb3:Below wr.heap.size wr w2:=(Below.refl _ _).drew.trans hb2
     go_wp2
     rotate_left
     ·rename_i hx;exfalso;simp at hx;omega
     go_roundw
     case rel =>
      refine⟨c+1,r,by go_num,rfl,by omega,by omega,hrr,obl ho hb3,grown_trans hgr (grown_below hb3),?_,HHI⟩
      intro x y h1 hx hy
      rw[show c+1 - 1=c by omega] at hx hy
      rw[(uh HXX).2] at hx
      rw[← uh HPC,(uh HXX).1] at hy
      injection hx with hx
      injection hy with hy
      subst hx hy
      exact fun hq=>(Int.not_lt.2 hneg) ((uh HLT).2 hq)
     case measure=>simp[intOf];omega
  ·as_aux_lemma =>
    obtain rfl:s=r:=by omega
    clear hsr
    obtain⟨en,HEN⟩:∃ en,Hid (en=mid+m - s):=⟨_,rfl⟩
    have hen:IntKind.i64.wrap ((nn:Int) - (s:Int))=(en:Int):=by have:=uh HEN;have:=uh HNN;rw[IntKind.wrap_i64];omega
    have HCUT:Hid (Cut X (mid+m - 1) s0 r0 s):=⟨hss,hrr,fun x y e1 e2 e3=>(uh HLO) x y e1 e2 (by rw[uh HP];exact e3),fun x y e1 e2 e3=>(uh HHI) x y e1 e2 (by rw[uh HP];exact e3)⟩
    obtain⟨R,HR⟩:∃ R,Hid (R=rot X s m en):=⟨_,rfl⟩
    have HMM:=hde (merge_mid (by omega) (by omega) (by rw[uh HX];exact hb) (uh HMID) (uh HS0) (uh HR0) (uh hO1) (uh hO2) (uh HCUT))
    rw[← uh HEN,← uh HR] at HMM
    have hRl:Hid (R.length=N):=by show _=_;rw[(uh HMM).2.2.2.2.2.2.1.1];exact uh HX
    have b1:=(uh HMM).1
    have b2:=(uh HMM).2.1
    have b3:=(uh HMM).2.2.1
    have b4:=(uh HMM).2.2.2.1
    have b5:=(uh HMM).2.2.2.2.1
    have b6:=(uh HMM).2.2.2.2.2.1
    clear HLO HHI HCUT h
    obtain⟨z1,Hz1⟩:∃ z:Bool,Hid (z=decide (s < m∧m < en)):=⟨_,rfl⟩
    go_upto_region 39 with fail
    go_cut [185] (fun t wx=>t = .bool z1∧wx=wr)
    case first =>
     as_aux_lemma =>
      by_cases y1:s < m
      ·have y1':(s:Int) < (m:Int):=by omega
       by_cases y2:m < en
       ·have y2':(m:Int) < (en:Int):=by omega
        go_wp2
        go_meet
        exact⟨by rw[uh Hz1,decide_eq_true (⟨y1,y2⟩:s < m∧m < en)],rfl⟩
       ·have y2':¬ (m:Int) < (en:Int):=by omega
        go_wp2
        go_meet
        exact⟨by rw[uh Hz1,decide_eq_false (fun hz:s < m∧m < en=>y2 hz.2)],rfl⟩
      ·have y1':¬ (s:Int) < (m:Int):=by omega
       go_wp2
       go_meet
       exact⟨by rw[uh Hz1,decide_eq_false (fun hz:s < m∧m < en=>y1 hz.1)],rfl⟩
    case rest =>
    obtain⟨rfl,hwc⟩:=hcut
    obtain rfl:=hwc.symm
    clear hwc
    go_upto_if 185 with fail
    go_cut [] (fun wx=>wx.ownsRow B 67 3 (.slice (some ⟨g,0,none⟩) N cap) N (edCells R)∧w.grownBy wx (some g))
    case first =>
     as_aux_lemma =>
      cases z1 with
      | true =>
       have hz:s < m∧m < en:=of_decide_eq_true (uh Hz1).symm
       go_wp2_with (go_at_call 299;refine(rotate_any g cap B s m en N X _ _ (uh HX) ho hz.1 hz.2 (by omega) hl).mono ?_;rintro e w2 ⟨rfl,ho2,hg2⟩;rw[← uh HR] at ho2)
       go_meet
       exact⟨ho2,grown_trans hgr hg2⟩
      | false =>
       have hz:¬ (s < m∧m < en):=of_decide_eq_false (uh Hz1).symm
       go_wp2
       go_meet
       exact⟨by rw[uh HR,rot_none b2 b3 (by rw[uh HX];omega) hz];exact ho,hgr⟩
    case rest =>
    as_aux_lemma =>
     obtain⟨ho2,hg2⟩:=hcut
     clear ho hgr
     obtain⟨z2,Hz2⟩:∃ z:Bool,Hid (z=decide (a < s∧s < mid)):=⟨_,rfl⟩
     go_upto_region 41 with fail
     go_cut [199] (fun t wx=>t = .bool z2∧wx=wc)
     case first =>
      as_aux_lemma =>
       by_cases y1:a < s
       ·have y1':(a:Int) < (s:Int):=by omega
        by_cases y2:s < mid
        ·have y2':(s:Int) < (mid:Int):=by omega
         go_wp2
         go_meet
         exact⟨by rw[uh Hz2,decide_eq_true (⟨y1,y2⟩:a < s∧s < mid)],rfl⟩
        ·have y2':¬ (s:Int) < (mid:Int):=by omega
         go_wp2
         go_meet
         exact⟨by rw[uh Hz2,decide_eq_false (fun hz:a < s∧s < mid=>y2 hz.2)],rfl⟩
       ·have y1':¬ (a:Int) < (s:Int):=by omega
        go_wp2
        go_meet
        exact⟨by rw[uh Hz2,decide_eq_false (fun hz:a < s∧s < mid=>y1 hz.1)],rfl⟩
     case rest =>
     obtain⟨rfl,hwc⟩:=hcut
     obtain rfl:=hwc.symm
     clear hwc
     go_upto_if 199 with fail
     go_cut [] (fun wx=>∃ Y,wx.ownsRow B 67 3 (.slice (some ⟨g,0,none⟩) N cap) N (edCells Y)∧w.grownBy wx (some g)∧Hid (Y.length=N)∧Hid (Mrg R Y a mid))
     case first =>
      as_aux_lemma =>
       cases z2 with
       | true =>
        have hz:a < s∧s < mid:=of_decide_eq_true (uh Hz2).symm
        go_wp2_with (go_at_call 252;refine((uh HIH) a s mid R _ (by omega) (uh hRl) ho2 hz.1 hz.2 (by omega) (uh HMM).2.2.2.2.2.2.2.1 (uh HMM).2.2.2.2.2.2.2.2.1).mono ?_;rintro e w3 ⟨rfl,Y,ho3,hg3,hM3⟩)
        go_meet
        exact⟨Y,ho3,grown_trans hg2 hg3,hM3.1.1.trans (uh hRl),hM3⟩
       | false =>
        have hz:¬ (a < s∧s < mid):=of_decide_eq_false (uh Hz2).symm
        go_wp2
        go_meet
        exact⟨R,ho2,hg2,hRl,Mrg.refl (ord_join (by omega) (uh HMM).2.2.2.2.2.2.2.1 (uh HMM).2.2.2.2.2.2.2.2.1)⟩
     case rest =>
     as_aux_lemma =>
      obtain⟨Y,ho3,hg3,hYl,HM3⟩:=hcut
      clear ho2 hg2
      obtain⟨z3,Hz3⟩:∃ z:Bool,Hid (z=decide (mid < en∧en < b)):=⟨_,rfl⟩
      go_upto_region 43 with fail
      go_cut [213] (fun t wx=>t = .bool z3∧wx=wc)
      case first =>
       as_aux_lemma =>
        by_cases y1:mid < en
        ·have y1':(mid:Int) < (en:Int):=by omega
         by_cases y2:en < b
         ·have y2':(en:Int) < (b:Int):=by omega
          go_wp2
          go_meet
          exact⟨by rw[uh Hz3,decide_eq_true (⟨y1,y2⟩:mid < en∧en < b)],rfl⟩
         ·have y2':¬ (en:Int) < (b:Int):=by omega
          go_wp2
          go_meet
          exact⟨by rw[uh Hz3,decide_eq_false (fun hz:mid < en∧en < b=>y2 hz.2)],rfl⟩
        ·have y1':¬ (mid:Int) < (en:Int):=by omega
         go_wp2
         go_meet
         exact⟨by rw[uh Hz3,decide_eq_false (fun hz:mid < en∧en < b=>y1 hz.1)],rfl⟩
      case rest =>
      obtain⟨rfl,hwc⟩:=hcut
      obtain rfl:=hwc.symm
      clear hwc
      have o3:=hde (Ord_of_out (uh HM3).2.2.1 (uh HMM).2.2.2.2.2.2.2.2.2.1 (Or.inr nlr))
      have o4:=hde (Ord_of_out (uh HM3).2.2.1 (uh HMM).2.2.2.2.2.2.2.2.2.2.1 (Or.inr b6))
      cases z3 with
      | true =>
       have hz:mid < en∧en < b:=of_decide_eq_true (uh Hz3).symm
       go_wp2_with (go_at_call 252;refine((uh HIH) mid en b Y _ (by omega) (uh hYl) ho3 hz.1 hz.2 hb (uh o3) (uh o4)).mono ?_;rintro e w4 ⟨rfl,Z,ho4,hg4,hM4⟩)
       go_end0
       exact⟨rfl,Z,ho4,grown_trans hg3 hg4,merge_end (by omega) (by omega) (uh HMM).2.2.2.2.2.2.1 (uh HMM).2.2.2.2.2.2.2.2.2.2.2.2.1 (uh HMM).2.2.2.2.2.2.2.2.2.2.2.2.2 (uh HMM).2.2.2.2.2.2.2.2.2.2.2.1 (uh HM3) hM4⟩
      | false =>
       have hz:¬ (mid < en∧en < b):=of_decide_eq_false (uh Hz3).symm
       go_wp2
       go_end0
       exact⟨rfl,Y,ho3,hg3,merge_end (by omega) (by omega) (uh HMM).2.2.2.2.2.2.1 (uh HMM).2.2.2.2.2.2.2.2.2.2.2.2.1 (uh HMM).2.2.2.2.2.2.2.2.2.2.2.2.2 (uh HMM).2.2.2.2.2.2.2.2.2.2.2.1 (uh HM3) (Mrg.refl (ord_join (by omega) (uh o3) (uh o4)))⟩
theorem symMerge_any (g cap B N:Nat) (hl:N≤5000):∀ n,SymAll g cap B N n
 | 0=>fun a m b X w hn hX h ham hmb hb h1 h2=>by omega
 | n+1=>fun a m b X w hn hX h ham hmb hb h1 h2=>by
  by_cases c1:m=a+1
  ·exact symOne_any g cap B a m b N X w hX h c1 hmb hb hl h2
  ·by_cases c2:b=m+1
   ·exact symLast_any g cap B a m b N X w hX h (by omega) c2 hb hl h1
   ·exact symBig_any g cap B a m b N n X w (symMerge_any g cap B N hl n) hn hX h (by omega) (by omega) hb hl h1 h2
end Go.Proofs.YteflnddphpjahaaGreatDoor
