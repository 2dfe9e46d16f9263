import Derived.Test.YteflnddphpjahaaGreatDoorClCardAtoCpF
import Derived.Test.YteflnddphpjahaaGreatDoorClPlLtoRefC
import Derived.Test.YteflnddphpjahaaGreatDoorClRefHtoGMem
import Derived.Test.YteflnddphpjahaaGreatDoorClPlAtoPlK
import Derived.Test.YteflnddphpjahaaGreatDoorClSameAtoLineD
import Derived.Outline
import Derived.Deep.DeepMust
import Derived.Laws.CopyRow
import Derived.Laws.CopyOwn
import Derived.WalkKit
import Derived.Shelf.Spec.SlicesInsertGrow
set_option linter.unusedVariables false
set_option linter.unusedSimpArgs false
set_option maxRecDepth 100000
set_option maxHeartbeats 16000000
namespace Go.Proofs.YteflnddphpjahaaGreatDoor
open Go.RowKit
namespace Sp
def hgt (L:List (List UInt8)):Nat→Nat→Nat→Nat→Option Nat
 | 0,a,b,h=>some h
 | f+1,a,b,h =>
  if b≤a then some h else
  match tk true (L.getD a []) with
  | none=>none
  | some (n,m) =>
   if h < n∨16 < h - n+m then none
   else if L.getD a []=[91] then
    match clo (L.drop a) a 0 with
    | none=>none
    | some e=>if hgt L f (a+1) e (h - n+m)=some (h - n+m) then hgt L (f - (e - a)) (e+1) b (h - n+m) else none
   else hgt L f (a+1) b (h - n+m)
theorem clo_bd:∀ (R:List (List UInt8)) (k:Nat) (d:Int) (e:Nat),clo R k d=some e→k≤e∧e < k+R.length:=by
 intro R
 induction R with
 | nil=>intro k d e h;cases h
 | cons x r ih =>
  intro k d e h
  simp only[clo] at h
  split at h
  ·injection h with h;simp;omega
  ·have:=ih _ _ _ h;simp;omega
theorem tk_bd {wt:Bool} {x:List UInt8} {n m:Nat} (h:tk wt x=some (n,m)):n≤3∧m≤3:=by
 unfold tk at h
 repeat' (split at h)
 all_goals (first | (injection h with h;injection h with h1 h2;omega) | cases h)
def hI:Option Nat→Int
 | some h=>(h:Int)
 | none=>-1
end Sp
structure Coded (X:List ByteArray):Prop where
 wds:Wds X
 len:X.length≤4000
 all:∀ k,k < X.length→∃ n m,Sp.tk true ((lst X).getD k [])=some (n,m)
 shut:∀ k,k < X.length→(lst X).getD k []=[91]→∃ e,Sp.clo ((lst X).drop k) k 0=some e∧k < e∧e < X.length
theorem height_any (X:List ByteArray) (hX:Coded X):∀ (N:Nat) (p:Option Addr) (cap a b h:Nat) (w:World),X.length - a≤N→SAt w p X→a≤X.length→b≤X.length→h≤16 →
  Calls Tryz.prog 110 #[.slice p X.length cap,.int .i64 a,.int .i64 b,.int .i64 h] w fun e w'=>e = .returned (.int .i64 (Sp.hI (Sp.hgt (lst X) (X.length - a) a b h)))∧w'=w:=by
 intro N
 induction N with
 | zero =>
  intro p cap a b h w hN hS ha hb hh
  have hab:b≤a:=by omega
  have HE:Hid (Sp.hgt (lst X) (X.length - a) a b h=some h):=by show _=_;rw[show X.length - a=0 by omega];unfold Sp.hgt;rfl
  have hlen:=hX.len
  have hz:¬ (a:Int) < (b:Int):=by omega
  go_enter Tryz.func110,Tryz.ntmps110
  go_wp2
  refine wp_loop_rounds 1 ?_
  rw[rounds_succ]
  go_wp2
  go_ret
  exact⟨by rw[uh HE];rfl,rfl⟩
 | succ N ih =>
  intro p cap a b h w hN hS ha hb hh
  have hlen:=hX.len
  have HIH:=hde ih
  have HXX:=hde hX
  clear ih hX
  obtain⟨o,HO⟩:∃ o,Hid (Sp.hgt (lst X) (X.length - a) a b h=o):=⟨_,rfl⟩
  rw[uh HO]
  go_enter Tryz.func110,Tryz.ntmps110
  go_wp2
  go_loopw [3,9] (fun u v wr=>∃ (i q:Nat),u = .int .i64 q∧v = .int .i64 i∧a≤i∧i≤X.length∧q≤16∧wr=w∧Hid (Sp.hgt (lst X) (X.length - i) i b q=o)) (fun _ v _=>X.length - (intOf v).toNat)
  case atStart=>exact⟨a,h,rfl,rfl,Nat.le_refl _,ha,hh,rfl,HO⟩
  case round =>
   obtain⟨i,q,rfl,rfl,hai,hil,hq,hw,HC⟩:=hrel
   obtain rfl:=hw.symm
   clear hw
   by_cases hlt:i < b
   ·have hltz:(i:Int) < (b:Int):=by omega
    have hix:i < X.length:=by omega
    obtain⟨g,off,rfl,hg1,hg2⟩:=hS i hix
    have hwd:=(uh HXX).wds X[i] (List.getElem_mem hix)
    obtain⟨x,hx⟩:∃ x,X[i]=x:=⟨_,rfl⟩
    rw[hx] at hg2 hwd
    have HX:Hid ((lst X).getD i []=x.data.toList):=by
     show _=_
     rw[List.getD_eq_getElem?_getD,List.getElem?_eq_getElem (by rw[lst_len];exact hix),lst_get hix,hx];rfl
    clear hx
    obtain⟨n,m,htk⟩:=(uh HXX).all i hix
    have hnm:=Sp.tk_bd htk
    have HTK:=hde htk
    clear htk
    have HTO:Hid (tkOut (Sp.tk true x.data.toList) = .tuple #[.int .i64 (n:Int),.int .i64 (m:Int),.bool true]):=by
     show _=_
     rw[← uh HX,uh HTK];rfl
    have HSTEP:Hid (Sp.hgt (lst X) (X.length - i) i b q=if q < n∨16 < q - n+m then none else if (lst X).getD i []=[91] then (match Sp.clo ((lst X).drop i) i 0 with | none=>none | some e=>if Sp.hgt (lst X) (X.length - (i+1)) (i+1) e (q - n+m)=some (q - n+m) then Sp.hgt (lst X) (X.length - (e+1)) (e+1) b (q - n+m) else none) else Sp.hgt (lst X) (X.length - (i+1)) (i+1) b (q - n+m)):=by
     show _=_
     rw[show X.length - i=(X.length - (i+1))+1 by omega]
     conv=>lhs;unfold Sp.hgt
     rw[if_neg (by omega),uh HTK]
     simp only
     by_cases c1:q < n∨16 < q - n+m
     ·rw[if_pos c1,if_pos c1]
     ·rw[if_neg c1,if_neg c1]
      by_cases c2:(lst X).getD i []=[91]
      ·rw[if_pos c2,if_pos c2]
       cases hc:Sp.clo ((lst X).drop i) i 0 with
       | none=>rfl
       | some e =>
        have:=Sp.clo_bd _ _ _ _ hc
        simp only
        rw[show X.length - (i+1) - (e - i)=X.length - (e+1) by omega]
      ·rw[if_neg c2,if_neg c2]
    go_upto_region 5 with (go_at_call 158;refine(takes_any x true _ hwd.2 hwd.1).mono ?_;rintro e w1 ⟨rfl,hw1⟩;obtain rfl:=hw1.symm;rw[uh HTO])
    by_cases c1:q < n
    ·have c1z:(q:Int) < (n:Int):=by omega
     have HE:Hid (o=none):=by show _=_;rw[← uh HC,uh HSTEP,if_pos (Or.inl c1)]
     go_wp2
     go_ret
     exact⟨by rw[uh HE];rfl,rfl⟩
    ·have c1z:¬ (q:Int) < (n:Int):=by omega
     by_cases c2:16 < q - n+m
     ·have c2z:(16:Int) < (q:Int) - (n:Int)+(m:Int):=by omega
      have HE:Hid (o=none):=by show _=_;rw[← uh HC,uh HSTEP,if_pos (Or.inr c2)]
      go_wp2
      go_ret
      exact⟨by rw[uh HE];rfl,rfl⟩
     ·have c2z:¬ (16:Int) < (q:Int) - (n:Int)+(m:Int):=by omega
      obtain⟨q2,HQ2⟩:∃ q2,Hid (q2=q - n+m):=⟨q - n+m,rfl⟩
      have hq2:(q:Int) - (n:Int)+(m:Int)=(q2:Int):=by have:=uh HQ2;omega
      have hq2b:q2≤16:=by have:=uh HQ2;omega
      by_cases c3:x.data.toList=[91]
      ·have g3:(x.toList == [91])=true:=toList_is c3
       obtain⟨e,he1,he2,he3⟩:=(uh HXX).shut i hix (by rw[uh HX];exact c3)
       have HCL:=hde he1
       clear he1
       obtain⟨r,HR⟩:∃ r,Hid (Sp.hgt (lst X) (X.length - (i+1)) (i+1) e q2=r):=⟨_,rfl⟩
       have HC3:=hde c3
       clear c3
       have hwi:IntKind.i64.wrap ((i:Int)+1)=((i+1:Nat):Int):=by rw[IntKind.wrap_i64];omega
       have HST2:Hid (o=if r=some q2 then Sp.hgt (lst X) (X.length - (e+1)) (e+1) b q2 else none):=by
        show _=_
        rw[← uh HC,uh HSTEP,if_neg (by omega),if_pos (by rw[uh HX];exact uh HC3),uh HCL]
        simp only
        rw[← uh HQ2,uh HR]
       obtain⟨rv,HRV⟩:∃ rv:Int,Hid (Sp.hI r=rv):=⟨_,rfl⟩
       have HCE:Hid (Sp.cloI (Sp.clo ((lst X).drop i) i 0)=(e:Int)):=by show _=_;rw[uh HCL];rfl
       have HREC:Hid (∀ a':Int,a'=((i+1:Nat):Int)→Calls Tryz.prog 110 #[.slice (some ⟨g,off,none⟩) X.length cap,.int .i64 a',.int .i64 e,.int .i64 q2] w fun e' w'=>e' = .returned (.int .i64 rv)∧w'=w):=by
        intro a' ha'
        subst ha'
        have hc:=(uh HIH) (some ⟨g,off,none⟩) cap (i+1) e q2 w (by omega) hS (by omega) (by omega) hq2b
        rw[uh HR,uh HRV] at hc
        exact hc
       by_cases hr:r=some q2
       ·have hrv:rv=(q2:Int):=by rw[← uh HRV,hr];rfl
        have HE:Hid (Sp.hgt (lst X) (X.length - (e+1)) (e+1) b q2=o):=by show _=_;rw[uh HST2,if_pos hr]
        clear hr
        subst hrv
        go_wp2_with (first
         | (go_at_call 159;refine(closes_any _ cap i X _ hS hlen (by omega)).mono ?_;rintro e' w2 ⟨rfl,hw2⟩;obtain rfl:=hw2.symm;rw[uh HCE])
         | (go_at_call 110;refine((uh HREC) _ (by omega)).mono ?_;rintro e' w3 ⟨rfl,hw3⟩;obtain rfl:=hw3.symm))
        go_roundw
        case rel=>exact⟨e+1,q2,rfl,by go_num,by omega,by omega,hq2b,by trivial,HE⟩
        case measure=>simp[intOf];omega
       ·have hne:rv≠(q2:Int):=by
         rw[← uh HRV]
         intro hc
         apply hr
         cases r with
         | none=>have hc':(-1:Int)=(q2:Int):=hc;omega
         | some v=>have hc':(v:Int)=(q2:Int):=hc;rw[show v=q2 by omega]
        have gne:(rv != (q2:Int))=true:=by rw[bne_iff_ne];exact hne
        have HE:Hid (o=none):=by show _=_;rw[uh HST2,if_neg hr]
        clear hr hne
        go_wp2_with (first
         | (go_at_call 159;refine(closes_any _ cap i X _ hS hlen (by omega)).mono ?_;rintro e' w2 ⟨rfl,hw2⟩;obtain rfl:=hw2.symm;rw[uh HCE])
         | (go_at_call 110;refine((uh HREC) _ (by omega)).mono ?_;rintro e' w3 ⟨rfl,hw3⟩;obtain rfl:=hw3.symm))
        go_ret
        exact⟨by rw[uh HE];rfl,rfl⟩
      ·have g3:(x.toList == [91])=false:=toList_ne c3
       have HE:Hid (Sp.hgt (lst X) (X.length - (i+1)) (i+1) b q2=o):=by
        show _=_
        rw[← uh HC,uh HSTEP,if_neg (by omega),if_neg (by rw[uh HX];exact c3),← uh HQ2]
       clear c3
       go_wp2
       go_roundw
       case rel=>exact⟨i+1,q2,rfl,by go_num,by omega,by omega,hq2b,by trivial,HE⟩
       case measure=>simp[intOf];omega
   ·have hltz:¬ (i:Int) < (b:Int):=by omega
    have HE:Hid (o=some q):=by
     show _=_
     rw[← uh HC]
     cases hf:X.length - i with
     | zero=>unfold Sp.hgt;rfl
     | succ f=>unfold Sp.hgt;rw[if_pos (by omega)]
    go_wp2
    go_ret
    exact⟨by rw[uh HE];rfl,rfl⟩
namespace Sp
def headsL:List (List UInt8):=[[110,101,119],[103,111],[109,115,103],[104,97,108,116],[103,105,118,101],[98,121],[97,108,108]]
theorem heads_at (i:Nat) (hi:i < 7):∃ b:ByteArray,(split ⟨#[32,110,101,119,32,103,111,32,109,115,103,32,104,97,108,116,32,103,105,118,101,32,98,121,32,97,108,108,32]⟩ 32)[i+1]? = some b∧b.data.toList=headsL.getD i []:=by
 have h:=split_spl ⟨#[32,110,101,119,32,103,111,32,109,115,103,32,104,97,108,116,32,103,105,118,101,32,98,121,32,97,108,108,32]⟩ 32
 have h2:(split ⟨#[32,110,101,119,32,103,111,32,109,115,103,32,104,97,108,116,32,103,105,118,101,32,98,121,32,97,108,108,32]⟩ 32).map (·.data.toList)=[] :: (headsL++[[]]):=h.trans (by decide)
 have h3:=congrArg (fun l=>l[i+1]?) h2
 simp only[List.getElem?_map,List.getElem?_cons_succ] at h3
 rw[List.getElem?_append_left (by show i < 7;exact hi)] at h3
 have h4:headsL[i]? = some (headsL.getD i []):=by
  rw[List.getD_eq_getElem?_getD,List.getElem?_eq_getElem (show i < headsL.length by show i < 7;exact hi)];rfl
 rw[h4] at h3
 cases hb:(split ⟨#[32,110,101,119,32,103,111,32,109,115,103,32,104,97,108,116,32,103,105,118,101,32,98,121,32,97,108,108,32]⟩ 32)[i+1]? with
 | none=>rw[hb] at h3;cases h3
 | some b=>rw[hb] at h3;injection h3 with h3;exact⟨b,rfl,h3⟩
def hd (i:Nat):List UInt8:=headsL.getD i []++[58]
end Sp
theorem head_any (i:Nat) (w:World) (hi:i < 7):Calls Tryz.prog 107 #[.int .i64 i] w fun e w'=>(∃ b:ByteArray,e = .returned (.string b)∧b.data.toList=Sp.hd i)∧Below w.heap.size w w':=by
 obtain⟨bb,h1,h2⟩:=Sp.heads_at i hi
 have H1:=hde h1
 have H2:=hde h2
 have hz:bb.size≤100:=by
  have e:bb.size=bb.data.toList.length:=by simp
  rw[e,h2]
  have hh:∀ j,j < 7→(Sp.headsL.getD j []).length≤100:=by decide
  exact hh i hi
 have hlen:i+1 < (Sp.split ⟨#[32,110,101,119,32,103,111,32,109,115,103,32,104,97,108,116,32,103,105,118,101,32,98,121,32,97,108,108,32]⟩ 32).length:=by
  rcases Nat.lt_or_ge (i+1) (Sp.split ⟨#[32,110,101,119,32,103,111,32,109,115,103,32,104,97,108,116,32,103,105,118,101,32,98,121,32,97,108,108,32]⟩ 32).length with h | h
  ·exact h
  ·rw[List.getElem?_eq_none h] at h1;cases h1
 clear h1 h2
 obtain⟨n,HN⟩:∃ n,Hid ((Sp.split ⟨#[32,110,101,119,32,103,111,32,109,115,103,32,104,97,108,116,32,103,105,118,101,32,98,121,32,97,108,108,32]⟩ 32).length=n):=⟨_,rfl⟩
 rw[uh HN] at hlen
 have hlz:(i:Int)+1 < (n:Int):=by omega
 have hp0:(0:Int)≤(i:Int)+1:=by omega
 have hp1:((i:Int)+1).toNat=i+1:=by omega
 go_enter Tryz.func107,Tryz.ntmps107
 go_wp2_with fail
 refine(split_any ⟨#[32,110,101,119,32,103,111,32,109,115,103,32,104,97,108,116,32,103,105,118,101,32,98,121,32,97,108,108,32]⟩ 32 32 rfl (by omega) _ (by decide)).mono ?_
 rintro e w1 ⟨v,rfl,ho,hb1⟩
 obtain⟨p,cap,rfl,hcs⟩:=osl ho
 obtain⟨g,rfl,_,_,hg⟩:=hcs (i+1) (by rw[uh HN];omega)
 have hg':w1.cell? ⟨g,i+1,none⟩=some (.string bb):=by rw[hg,List.getElem?_map,uh H1];rfl
 rw[uh HN]
 clear hg hcs ho
 go_wp2
 go_ret
 exact⟨⟨_,rfl,by rw[ByteArray.data_append,Array.toList_append,uh H2];rfl⟩,hb1⟩
namespace Sp
def sumD:List (List UInt8)→Int
 | []=>0
 | x :: r=>ds x+sumD r
theorem fmd_sum {wt:Bool}:∀ (R:List (List UInt8)) (d:Int),fmd wt R d=true→sumD R+d=0:=by
 intro R
 induction R with
 | nil=>intro d h;simp only[fmd,decide_eq_true_eq] at h;simp[sumD,h]
 | cons x r ih =>
  intro d h
  simp only[fmd] at h
  split at h
  ·cases h
  ·have:=ih _ h;simp only[sumD];omega
theorem fmd_suffix {wt:Bool}:∀ (R:List (List UInt8)) (d:Int),0≤d→fmd wt R d=true→∀ k,k≤R.length→∃ d',0≤d'∧fmd wt (R.drop k) d'=true:=by
 intro R
 induction R with
 | nil=>intro d hd h k hk;simp only[List.length_nil] at hk;exact⟨d,hd,by rw[show k=0 by omega];exact h⟩
 | cons x r ih =>
  intro d hd h k hk
  cases k with
  | zero=>exact⟨d,hd,h⟩
  | succ k =>
   simp only[fmd] at h
   split at h
   ·cases h
   ·rename_i hc
    exact ih _ (by omega) h k (by simpa using hk)
theorem fmd_word {wt:Bool} {R:List (List UInt8)} {d:Int} (h:fmd wt R d=true) (h0:0 < R.length):tk wt (R[0]'h0)≠none:=by
 cases R with
 | nil=>simp at h0
 | cons x r =>
  simp only[fmd] at h
  split at h
  ·cases h
  ·rename_i hc;exact fun e=>hc (Or.inl e)
theorem clo_ex:∀ (R:List (List UInt8)) (k:Nat) (d:Int),0 < d→sumD R+d≤0→∃ e,clo R k d=some e:=by
 intro R
 induction R with
 | nil=>intro k d h1 h2;simp only[sumD] at h2;omega
 | cons x r ih =>
  intro k d h1 h2
  have hb:=ds_bd x
  simp only[sumD] at h2
  by_cases c:d+ds x=0
  ·exact⟨k,by simp only[clo,if_pos c]⟩
  ·obtain⟨e,he⟩:=ih (k+1) (d+ds x) (by omega) (by omega)
   exact⟨e,by simp only[clo,if_neg c];exact he⟩
theorem tk_weight {x:List UInt8} {n m:Nat} (h:tk false x=some (n,m)):tk true x=some (n,m):=by
 unfold tk at h ⊢
 by_cases c:(number x).isSome=true∨x ∈ loadsL∨(false=true∧x=[119,101,105,103,104,116])
 ·rw[if_pos c] at h
  have c':(number x).isSome=true∨x ∈ loadsL∨(true=true∧x=[119,101,105,103,104,116]):=by
   rcases c with c | c | c
   ·exact Or.inl c
   ·exact Or.inr (Or.inl c)
   ·cases c.1
  rw[if_pos c'];exact h
 ·rw[if_neg c] at h
  by_cases c2:x=[119,101,105,103,104,116]
  ·subst c2
   exfalso
   revert h
   rw[if_neg (by decide),if_neg (by decide),if_neg (by decide),if_neg (by decide),if_neg (by decide),if_neg (by decide),if_neg (by decide),if_neg (by decide)]
   intro h;cases h
  ·rw[if_neg (fun hc=>c (by rcases hc with hc | hc | hc;exact Or.inl hc;exact Or.inr (Or.inl hc);exact absurd hc.2 c2))]
   exact h
theorem spl_no (c:UInt8):∀ (l:List UInt8),∀ y ∈ spl c l,c ∉ y:=by
 intro l
 induction l with
 | nil=>intro y hy;simp[spl] at hy;subst hy;simp
 | cons b r ih =>
  intro y hy
  simp only[spl] at hy
  split at hy
  ·simp only[List.mem_cons] at hy
   rcases hy with rfl | hy
   ·simp
   ·exact ih y hy
  ·rename_i hbc
   obtain⟨h',t',e⟩:=spl_ne c r
   rw[e] at hy
   simp only[List.mem_cons] at hy
   rcases hy with rfl | hy
   ·intro hm
    rcases List.mem_cons.1 hm with hm | hm
    ·exact hbc hm.symm
    ·exact ih h' (by rw[e];exact List.mem_cons_self ..) hm
   ·exact ih y (by rw[e];exact List.mem_cons_of_mem _ hy)
def ws (x:ByteArray):List ByteArray:=split x 32
theorem ws_no {x:ByteArray}:∀ y ∈ ws x,(32:UInt8) ∉ y.data.toList:=by
 intro y hy
 have h:=split_spl x 32
 have hm:y.data.toList ∈ (split x (32:UInt8).toNat).map (·.data.toList):=List.mem_map.2 ⟨y,hy,rfl⟩
 rw[h] at hm
 exact spl_no 32 _ _ hm
theorem cut_size (s:ByteArray) (c:Nat):∀ y ∈ split s c,y.size≤s.size:=cuts_size s c (s.size+1)
def lineOk (i:Nat) (x:ByteArray):Bool :=
 decide (((ws x).headD ⟨#[]⟩).data.toList=hd i) && (if 5≤i then decide ((ws x).tail.length=1) && decide (((ws x).tail.headD ⟨#[]⟩).data.toList ∈ combsL) else fmd (i == 2) ((ws x).tail.map (·.data.toList)) 0 && !(ws x).tail.isEmpty)
def codeOf (s:ByteArray) (i:Nat):List (List UInt8):=(ws ((split s 10).getD i ⟨#[]⟩)).tail.map (·.data.toList)
def comp (s:ByteArray):Int × Int :=
 if 2000 < s.size then (1,0) else
 match first (fun i=>!lineOk i ((split s 10).getD i ⟨#[]⟩)) (min 7 (split s 10).length) with
 | some i=>(3,(i:Int))
 | none=>if 7 < (split s 10).length then (3,7) else if (split s 10).length < 7 then (3,((split s 10).length:Int)) else
  match first (fun i=>decide (hgt (codeOf s i) (codeOf s i).length 0 (codeOf s i).length 0≠some 1)) 5 with
  | some i=>(7,(i:Int))
  | none=>(0,0)
end Sp
theorem coded_of {X:List ByteArray} {wt:Bool} (hW:Wds X) (hl:X.length≤4000) (h:Sp.fmd wt (lst X) 0=true):Coded X:=by
 have hall:∀ k,k < X.length→∃ n m,Sp.tk true ((lst X).getD k [])=some (n,m):=by
  intro k hk
  obtain⟨d,hd,hf⟩:=Sp.fmd_suffix (lst X) 0 (by omega) h k (by rw[lst_len];omega)
  have hk':k < (lst X).length:=by rw[lst_len];exact hk
  have h1:=Sp.fmd_word hf (by rw[List.length_drop];omega)
  have e:((lst X).drop k)[0]'(by rw[List.length_drop];omega)=(lst X)[k]:=by simp
  rw[e] at h1
  rw[List.getD_eq_getElem?_getD,List.getElem?_eq_getElem hk']
  simp only[Option.getD_some]
  cases ht:Sp.tk wt (lst X)[k] with
  | none=>exact absurd ht h1
  | some nm =>
   obtain⟨n,m⟩:=nm
   cases wt with
   | true=>exact⟨n,m,ht⟩
   | false=>exact⟨n,m,Sp.tk_weight ht⟩
 refine⟨hW,hl,hall,?_⟩
 intro k hk hb
 have hk':k < (lst X).length:=by rw[lst_len];exact hk
 obtain⟨d,hd,hf⟩:=Sp.fmd_suffix (lst X) 0 (by omega) h k (by omega)
 have hs:=Sp.fmd_sum _ _ hf
 rw[List.getD_eq_getElem?_getD,List.getElem?_eq_getElem hk'] at hb
 simp only[Option.getD_some] at hb
 rw[List.drop_eq_getElem_cons hk'] at hs ⊢
 have hds:Sp.ds (lst X)[k]=1:=by rw[hb];rfl
 simp only[Sp.sumD,hds] at hs
 obtain⟨e,he⟩:=Sp.clo_ex ((lst X).drop (k+1)) (k+1) 1 (by omega) (by omega)
 have hb2:=Sp.clo_bd _ _ _ _ he
 rw[List.length_drop,lst_len] at hb2
 refine⟨e,?_,by omega,by omega⟩
 simp only[Sp.clo,hds]
 rw[if_neg (by omega)]
 exact he
end Go.Proofs.YteflnddphpjahaaGreatDoor
namespace Go.Proofs.YteflnddphpjahaaGreatDoor.Sp
open Go
abbrev Tb:=List (Int × Int)
def tlow (T:Tb) (a:Int):Nat:=(T.filter fun p=>decide (p.1 < a)).length
def thas (T:Tb) (a:Int):Bool:=T.any fun p=>p.1 == a
def tsorted (T:Tb):Prop:=T.Pairwise fun p q=>p.1 < q.1
def tins (T:Tb) (a v:Int):Tb:=T.take (tlow T a)++(a,v) :: T.drop (tlow T a)
theorem tlow_le (T:Tb) (a:Int):tlow T a≤T.length:=List.length_filter_le _ _
theorem tlow_split (A B:Tb) (a:Int) (hA:∀ p ∈ A,p.1 < a) (hB:∀ p ∈ B,a≤p.1):tlow (A++B) a=A.length:=by
 unfold tlow
 rw[List.filter_append,List.filter_eq_self.2 (fun p hp=>decide_eq_true (hA p hp)),List.filter_eq_nil_iff.2 (fun p hp=>by simp;exact hB p hp)]
 simp
theorem tlow_at {T:Tb} {i:Nat} {a:Int} (hi:i≤T.length) (h1:∀ j (h:j < T.length),j < i→(T[j]).1 < a) (h2:∀ j (h:j < T.length),i≤j→a≤(T[j]).1):tlow T a=i:=by
 have e:=List.take_append_drop i T
 rw[← e,tlow_split]
 ·simp;omega
 ·intro p hp
  obtain⟨j,hj,rfl⟩:=List.mem_iff_getElem.1 hp
  simp at hj ⊢
  exact h1 j (by omega) (by omega)
 ·intro p hp
  obtain⟨j,hj,rfl⟩:=List.mem_iff_getElem.1 hp
  simp at hj ⊢
  exact h2 (i+j) (by omega) (by omega)
theorem tsorted_lt {T:Tb} (h:tsorted T) {i j:Nat} (hij:i < j) (hj:j < T.length):(T[i]'(by omega)).1 < (T[j]).1:=List.pairwise_iff_getElem.1 h i j (by omega) hj hij
theorem tsorted_le {T:Tb} (h:tsorted T) {i j:Nat} (hij:i≤j) (hj:j < T.length):(T[i]'(by omega)).1≤(T[j]).1:=by
 rcases Nat.lt_or_eq_of_le hij with hl | rfl
 ·exact Int.le_of_lt (tsorted_lt h hl hj)
 ·exact Int.le_refl _
theorem tlow_sorted {T:Tb} (h:tsorted T) (a:Int):(∀ j (hj:j < T.length),j < tlow T a↔(T[j]).1 < a):=by
 induction T with
 | nil=>intro j hj;simp at hj
 | cons p t ih =>
  have ht:tsorted t:=(List.pairwise_cons.1 h).2
  have hp:=(List.pairwise_cons.1 h).1
  intro j hj
  by_cases hpa:p.1 < a
  ·have e:tlow (p :: t) a=tlow t a+1:=by unfold tlow;rw[List.filter_cons,if_pos (decide_eq_true hpa)];rfl
   rw[e]
   cases j with
   | zero=>simp[hpa]
   | succ j=>simpa using ih ht j (by simpa using hj)
  ·have e:tlow (p :: t) a=0:=by
    have:=tlow_split [] (p :: t) a (by simp) (by
     intro q hq
     rcases List.mem_cons.1 hq with rfl | hq
     ·omega
     ·have:=hp q hq;omega)
    simpa using this
   rw[e]
   constructor
   ·intro hh;omega
   ·intro hh
    exfalso
    cases j with
    | zero=>exact hpa hh
    | succ j=>have:=hp (t[j]'(by simpa using hj)) (List.getElem_mem _);simp at hh;omega
theorem thas_at {T:Tb} (h:tsorted T) (a:Int):thas T a=true↔∃ hj:tlow T a < T.length,(T[tlow T a]).1=a:=by
 constructor
 ·intro ht
  obtain⟨p,hp,he⟩:=List.any_eq_true.1 ht
  obtain⟨j,hj,rfl⟩:=List.mem_iff_getElem.1 hp
  have he:(T[j]).1=a:=by simpa using he
  have hjl:tlow T a=j:=tlow_at (by omega) (fun i hi hij=>by have:=tsorted_lt h hij hj;omega) (fun i hi hij=>by have:=tsorted_le h hij hi;omega)
  rw[hjl];exact⟨hj,he⟩
 ·rintro⟨hj,he⟩
  exact List.any_eq_true.2 ⟨T[tlow T a],List.getElem_mem _,by simpa using he⟩
theorem tins_sorted {T:Tb} (h:tsorted T) {a v:Int} (hn:thas T a=false):tsorted (tins T a v):=by
 have hl:=tlow_sorted h a
 unfold tins tsorted
 rw[List.pairwise_append]
 refine⟨h.sublist (List.take_sublist _ _),List.pairwise_cons.2 ⟨?_,h.sublist (List.drop_sublist _ _)⟩,?_⟩
 ·intro q hq
  obtain⟨j,hj,rfl⟩:=List.mem_iff_getElem.1 hq
  simp at hj ⊢
  have h1:=not_congr (hl (tlow T a+j) (by omega))
  have h2:¬ (T[tlow T a+j]).1=a:=by
   intro e
   have:thas T a=true:=List.any_eq_true.2 ⟨T[tlow T a+j],List.getElem_mem _,by simpa using e⟩
   rw[this] at hn;cases hn
  have h3:=h1.1 (by omega)
  omega
 ·intro p hp q hq
  obtain⟨i,hi,rfl⟩:=List.mem_iff_getElem.1 hp
  have hi':i < tlow T a∧i < T.length:=by rw[List.length_take] at hi;omega
  have h1:=(hl i hi'.2).1 hi'.1
  rcases List.mem_cons.1 hq with rfl | hq
  ·simpa using h1
  ·obtain⟨j,hj,rfl⟩:=List.mem_iff_getElem.1 hq
   simp at hj ⊢
   exact tsorted_lt h (by omega) (by omega)
theorem tins_len (T:Tb) (a v:Int):(tins T a v).length=T.length+1:=by
 have:=tlow_le T a
 simp[tins];omega
end Go.Proofs.YteflnddphpjahaaGreatDoor.Sp
namespace Go.Proofs.YteflnddphpjahaaGreatDoor
open Go.RowKit
theorem isNaN_rune (x:Int) (w:World):Calls Tryz.prog 250 #[.int .i32 x] w fun e w'=>e = .returned (.bool false)∧w'=w:=by
 have h:(x != x)=false:=by simp
 go_enter Tryz.func250,Tryz.ntmps250
 go_wp2
 go_ret
 exact⟨rfl,rfl⟩
def cmpI (x y:Int):Int:=if x < y then -1 else if y < x then 1 else 0
theorem compare_rune (x y:Int) (w:World):Calls Tryz.prog 168 #[.int .i32 x,.int .i32 y] w fun e w'=>e = .returned (.int .i64 (cmpI x y))∧w'=w:=by
 rcases Int.lt_trichotomy x y with h | h | h
 ·have e1:cmpI x y = -1:=if_pos h
  rw[e1];clear e1
  go_enter Tryz.func168,Tryz.ntmps168
  go_wp2_with (go_at_call 250;refine(isNaN_rune _ _).mono ?_;rintro e w' ⟨rfl,rfl⟩)
  go_ret
  exact⟨rfl,rfl⟩
 ·subst h
  have e1:cmpI x x=0:=by simp[cmpI]
  rw[e1];clear e1
  have hx:¬ x < x:=Int.lt_irrefl x
  go_enter Tryz.func168,Tryz.ntmps168
  go_wp2_with (go_at_call 250;refine(isNaN_rune _ _).mono ?_;rintro e w' ⟨rfl,rfl⟩)
  go_ret
  exact⟨rfl,rfl⟩
 ·have hn:¬ x < y:=by omega
  have e1:cmpI x y=1:=by unfold cmpI;rw[if_neg hn,if_pos h]
  rw[e1];clear e1
  go_enter Tryz.func168,Tryz.ntmps168
  go_wp2_with (go_at_call 250;refine(isNaN_rune _ _).mono ?_;rintro e w' ⟨rfl,rfl⟩)
  go_ret
  exact⟨rfl,rfl⟩
theorem placeCmp (a v y:Int) (w:World):Calls Tryz.prog 167 #[.agg #[.int .i32 a,.int .i64 v],.int .i32 y] w fun e w'=>e = .returned (.int .i64 (cmpI a y))∧Below w.heap.size w w':=by
 go_enter Tryz.func167,Tryz.ntmps167
 go_wp2_with (go_at_call 168;refine(compare_rune _ _ _).mono ?_;rintro e w' ⟨rfl,rfl⟩)
 go_ret
 exact⟨rfl,(Below.refl _ _).alloc nlr _⟩
def EntsAt (w:World) (p:Option Addr) (T:Sp.Tb):Prop := ∀ j (h:j < T.length),∃ g,p=some ⟨g,0,none⟩∧w.cell? ⟨g,j * 2,none⟩=some (.int .i32 (T[j]).1)∧w.cell? ⟨g,j * 2+1,none⟩=some (.int .i64 (T[j]).2)
theorem EntsAt.below {w w':World} {p:Option Addr} {T:Sp.Tb} (h:EntsAt w p T) (hb:Below w.heap.size w w'):EntsAt w' p T:=fun j hj=>by
 obtain⟨g,e,c0,c1⟩:=h j hj
 exact⟨g,e,(hb.cell (World.block_lt_of_cell? w _ c0)).trans c0,(hb.cell (World.block_lt_of_cell? w _ c1)).trans c1⟩
theorem search_any (p:Option Addr) (cap:Nat) (T:Sp.Tb) (y:Int) (w:World) (h:EntsAt w p T) (hT:Sp.tsorted T) (hl:T.length≤100000) :
  Calls Tryz.prog 166 #[.slice p T.length cap,.int .i32 y,.func (.func 167) #[] #[]] w fun e w'=>e = .returned (.tuple #[.int .i64 (Sp.tlow T y:Nat),.bool (Sp.thas T y)])∧Below w.heap.size w w':=by
 go_enter Tryz.func166,Tryz.ntmps166
 go_wp2
 go_loopw [9,10] (fun a b wr=>∃ i j:Nat,i≤j∧j≤T.length∧a = .int .i64 i∧b = .int .i64 j∧Below w.heap.size w wr∧(∀ k (hk:k < T.length),k < i→(T[k]).1 < y)∧(∀ k (hk:k < T.length),j≤k→y≤(T[k]).1)) (fun a b _=>(intOf b - intOf a).toNat)
 case atStart=>exact⟨0,T.length,Nat.zero_le _,Nat.le_refl _,rfl,rfl,Below.refl _ _,fun k hk h=>by omega,fun k hk h=>by omega⟩
 case round =>
  obtain⟨i,j,hij,hj,rfl,rfl,hb,hlo,hhi⟩:=hrel
  have HLO:=hde hlo
  have HHI:=hde hhi
  clear hlo hhi
  by_cases hlt:i < j
  ·have hm0:(i+j) / 2 < T.length:=by omega
   have hm1:i≤(i+j) / 2:=by omega
   have hm2:(i+j) / 2 < j:=by omega
   have hlt':(i:Int) < (j:Int):=by omega
   obtain⟨g,hp,c0,c1⟩:=(h.below hb) ((i+j) / 2) (by omega)
   subst hp
   obtain⟨x,hx⟩:∃ x,(T[(i+j) / 2]).1=x:=⟨_,rfl⟩
   obtain⟨v,hv⟩:∃ x,(T[(i+j) / 2]).2=x:=⟨_,rfl⟩
   rw[hx] at c0
   rw[hv] at c1
   have HX:=hde hx
   clear hx hv
   by_cases hxy:x < y
   ·have HC:Hid (cmpI x y = -1):=if_pos hxy
    clear hxy
    go_wp2_with (go_at_call 167;refine(placeCmp _ _ _ _).mono ?_;rintro e w' ⟨rfl,hb2⟩;rw[uh HC])
    go_roundw
    case rel =>
     refine⟨(i+j) / 2+1,j,by omega,hj,by go_num,rfl,hb.trans (hb2.mono hb.size),fun k hk hki=>?_,uh HHI⟩
     have h1:=Sp.tsorted_le hT (i:=k) (j:=(i+j) / 2) (by omega) hm0
     have h2:=uh HX
     have h3:¬ ¬ x < y:=fun hn=>by have:=uh HC;unfold cmpI at this;rw[if_neg hn] at this;split at this <;> omega
     omega
    case measure=>simp[intOf];omega
   ·have HC:Hid (0≤cmpI x y):=by show _≤_;unfold cmpI;rw[if_neg hxy];split <;> omega
    have HXY:=hde hxy
    clear hxy
    obtain⟨c,hc⟩:∃ c,cmpI x y=c:=⟨_,rfl⟩
    rw[hc] at HC
    have HC2:=hde hc
    have hc0:0≤c:=uh HC
    clear hc
    go_wp2_with (go_at_call 167;refine(placeCmp _ _ _ _).mono ?_;rintro e w' ⟨rfl,hb2⟩;rw[uh HC2])
    go_roundw
    case rel =>
     refine⟨i,(i+j) / 2,by omega,by omega,rfl,by go_num,hb.trans (hb2.mono hb.size),uh HLO,fun k hk hki=>?_⟩
     have h1:=Sp.tsorted_le hT (i:=(i+j) / 2) (j:=k) (by omega) hk
     have h2:=uh HX
     have h3:=uh HXY
     omega
    case measure=>simp[intOf];omega
  ·have hji:j=i:=by omega
   subst hji
   have HL:Hid (Sp.tlow T y=j):=Sp.tlow_at hj (uh HLO) (uh HHI)
   by_cases hjl:j < T.length
   ·have hjl':(j:Int) < (T.length:Int):=by omega
    obtain⟨g,hp,c0,c1⟩:=(h.below hb) j hjl
    subst hp
    have HH:=hde (Sp.thas_at hT y)
    obtain⟨x,hx⟩:∃ x,(T[j]).1=x:=⟨_,rfl⟩
    obtain⟨v,hv⟩:∃ x,(T[j]).2=x:=⟨_,rfl⟩
    rw[hx] at c0
    rw[hv] at c1
    have HX:=hde hx
    clear hx hv
    obtain⟨c,hc⟩:∃ c,cmpI x y=c:=⟨_,rfl⟩
    have HC2:=hde hc
    have HE:Hid (Sp.thas T y=(c == 0)):=by
     show _=_
     have h1:(c == 0)=decide (x=y):=by
      rw[← hc];unfold cmpI
      rcases Int.lt_trichotomy x y with h | h | h
      ·rw[if_pos h,decide_eq_false (by omega)];rfl
      ·subst h;simp
      ·rw[if_neg (by omega),if_pos h,decide_eq_false (by omega)];rfl
     rw[h1]
     apply Bool.eq_iff_iff.2
     rw[uh HH,decide_eq_true_iff]
     constructor
     ·rintro⟨hq,e⟩
      have e2:T[Sp.tlow T y]=T[j]:=by congr 1 <;> exact uh HL
      rw[e2] at e;rw[← e];exact(uh HX).symm
     ·intro e
      have e2:T[Sp.tlow T y]'(by rw[uh HL];exact hjl)=T[j]:=by congr 1 <;> exact uh HL
      exact⟨by rw[uh HL];exact hjl,by rw[e2];exact(uh HX).trans e⟩
    clear hc
    go_wp2_with (go_at_call 167;refine(placeCmp _ _ _ _).mono ?_;rintro e w' ⟨rfl,hb2⟩;rw[uh HC2])
    exact bodyPost_ret (v := .tuple #[.int .i64 j,.bool (c == 0)]) (by simp[results,Tryz.results166,go_sem]) rfl ⟨by rw[uh HL,uh HE],hb.trans (hb2.mono hb.size)⟩
   ·have hjl':¬ (j:Int) < (T.length:Int):=by omega
    have hj2:(T.length:Int)≤(j:Int):=by omega
    have HE:Hid (Sp.thas T y=false):=by
     show _=_
     cases hq:Sp.thas T y with
     | false=>rfl
     | true=>obtain⟨h1,_⟩:=(Sp.thas_at hT y).1 hq;rw[uh HL] at h1;omega
    go_wp2
    exact bodyPost_ret (v := .tuple #[.int .i64 j,.bool false]) (by simp[results,Tryz.results166,go_sem]) rfl ⟨by rw[uh HL,uh HE],hb⟩
def tbCells (T:Sp.Tb):List Value:=T.flatMap fun p=>[.int .i32 p.1,.int .i64 p.2]
theorem tb_len (T:Sp.Tb):(tbCells T).length=T.length * 2:=by
 induction T with
 | nil=>rfl
 | cons p t ih=>simp[tbCells] at ih ⊢;omega
theorem tb_append (A B:Sp.Tb):tbCells (A++B)=tbCells A++tbCells B:=by simp[tbCells]
theorem tb_get (T:Sp.Tb):∀ j (h:j < T.length),(tbCells T)[j * 2]? = some (.int .i32 (T[j]).1)∧(tbCells T)[j * 2+1]? = some (.int .i64 (T[j]).2):=by
 induction T with
 | nil=>intro j h;simp at h
 | cons p t ih =>
  intro j h
  have e:tbCells (p :: t) = .int .i32 p.1 :: .int .i64 p.2 :: tbCells t:=by simp[tbCells]
  rw[e]
  cases j with
  | zero=>simp
  | succ j =>
   have:=ih j (by simpa using h)
   rw[show (j+1) * 2=j * 2+1+1 by omega]
   simpa using this
theorem tb_one (T:Sp.Tb):∀ u ∈ tbCells T,u.oneCell'=true:=by
 intro u hu
 obtain⟨p,_,hp⟩:=List.mem_flatMap.1 hu
 simp at hp
 rcases hp with rfl | rfl <;> rfl
def TabAt (w:World) (B t:Nat) (T:Sp.Tb):Prop :=
 ∃ v,w.heap[t]? = some (.cells #[v] 243 (0,0))∧w.ownsRow B 313 2 v T.length (tbCells T)
theorem ents_of_own {w:World} {B:Nat} {v:Value} {T:Sp.Tb} (h:w.ownsRow B 313 2 v T.length (tbCells T)):∃ p cap,v = .slice p T.length cap∧EntsAt w p T:=by
 have h':=h
 rcases h.2 with ⟨hv,hn⟩ | ⟨g,cap,cur,hv,_⟩
 ·subst hv
  refine⟨none,0,by rw[hn],fun j hj=>by omega⟩
 ·subst hv
  refine⟨some ⟨g,0,none⟩,cap,rfl,fun j hj=>⟨g,rfl,?_,?_⟩⟩
  ·rw[h'.cellAt _ (by omega)];exact(tb_get T j hj).1
  ·rw[h'.cellAt _ (by omega)];exact(tb_get T j hj).2
theorem TabAt.below {w w':World} {B t:Nat} {T:Sp.Tb} (h:TabAt w B t T) (hb:Below w.heap.size w w'):TabAt w' B t T:=by
 obtain⟨v,h1,h2⟩:=h
 exact⟨v,(hb.block t (lt_of_block h1)).trans h1,obl h2 hb⟩
theorem tab_cell {w:World} {t:Nat} {v:Value} {e:TypeId} (h:w.heap[t]? = some (.cells #[v] e (0,0))):w.cell? ⟨t,0,none⟩=some v:=by
 rw[cell_of_row w t 0 _ _ _ h];rfl
theorem tplace_any (t B:Nat) (T:Sp.Tb) (y:Int) (w:World) (h:TabAt w B t T) (hT:Sp.tsorted T) (hl:T.length≤100000) :
  Calls Tryz.prog 115 #[.pointer (some ⟨t,0,none⟩),.int .i32 y] w fun e w'=>e = .returned (.tuple #[.int .i64 (Sp.tlow T y:Nat),.bool (Sp.thas T y)])∧Below w.heap.size w w':=by
 obtain⟨v,hv,ho⟩:=h
 obtain⟨p,cap,rfl,he⟩:=ents_of_own ho
 have hc:=tab_cell hv
 clear hv ho
 go_enter Tryz.func115,Tryz.ntmps115
 go_wp2_with fail
 refine(search_any p cap T y w he hT hl).mono ?_
 rintro e w' ⟨rfl,hb⟩
 go_wp2
 exact bodyPost_ret (v := .tuple #[.int .i64 (Sp.tlow T y:Nat),.bool (Sp.thas T y)]) (by simp[results,Tryz.results115,go_sem]) rfl ⟨rfl,hb⟩
theorem tlen_any (t B:Nat) (T:Sp.Tb) (w:World) (h:TabAt w B t T) :
  Calls Tryz.prog 65 #[.pointer (some ⟨t,0,none⟩)] w fun e w'=>e = .returned (.int .i64 T.length)∧w'=w:=by
 obtain⟨v,hv,ho⟩:=h
 obtain⟨p,cap,rfl,he⟩:=ents_of_own ho
 have hc:=tab_cell hv
 clear hv ho
 go_enter Tryz.func65,Tryz.ntmps65
 go_wp2
 go_ret
 exact⟨rfl,rfl⟩
theorem run_copy_rowK {P:Program} (w:World) (dT sT ty elem:TypeId) (sz g o dLen dCap:Nat) (a:Addr) (sLen sCap:Nat) (cur:Array Value) (t:TypeId) (cs:List Value)
  (hu:P.underlying dT=some (.slice elem)) (hs:(P.info? elem).map (·.size)=some sz)
  (hg:w.heap[g]? = some (.cells cur t (0,0))) (k:Nat) (hk:Nat.min sLen dLen=k) (hn:cs.length=k * sz)
  (hsrc:∀ j v,cs[j]? = some v→w.cell? (a.add j)=some v) (hfit:o+cs.length≤cur.size) (h1:∀ v ∈ cs,v.oneCell'=true) :
  (Builtin.copy_ #[dT,sT] ty #[.slice (some ⟨g,o,none⟩) dLen dCap,.slice (some a) sLen sCap]).run P w =
   .ok (goInt k) (w.setRow g (cur.toList.take o++cs++cur.toList.drop (o+cs.length)).toArray):=by
 have hl:=run_loadCells_list (P:=P) w a cs hsrc
 have hst:=run_storeCells_at P g o t cs 0 cur w hg (by simpa using hfit) h1
 cases hq:P.info? elem with
 | none=>simp[hq] at hs
 | some i =>
  have hi:i.size=sz:=by simpa [hq] using hs
  simp[Builtin.copy_,run_underlying hu,Builtin.lenOf,Builtin.firstCells,sizeOf,typeInfo,hq,hi,hk,← hn,hl,hst]
theorem Tryz.info_entry:(Tryz.prog.info? 313).map (fun i=>(i.zero,i.size,i.bytes))=some (some (.agg #[.int .i32 0,.int .i64 0]),2,16):=by kernel_rfl
section
variable {α : Type}
def ovr (L:List α) (o:Nat) (c:List α):List α:=L.take o++c++L.drop (o+c.length)
theorem ovr_len (L:List α) (o:Nat) (c:List α) (h:o+c.length≤L.length):(ovr L o c).length=L.length:=by simp[ovr];omega
theorem ovr_room (L:List α) (o:Nat) (V D:List α) (n:Nat) (h1:o+V.length+D.length≤L.length) :
  (ovr (ovr L (o+V.length) D) o V).take (o+V.length+D.length)=L.take o++V++D:=by
 have e1:(ovr L (o+V.length) D).take o=L.take o:=by
  unfold ovr
  rw[List.append_assoc,List.take_append_of_le_length (by simp;omega),List.take_take,Nat.min_eq_left (by omega)]
 have e2:(ovr L (o+V.length) D).drop (o+V.length)=D++L.drop (o+V.length+D.length):=by
  unfold ovr
  rw[List.append_assoc,List.drop_append_of_le_length (by simp;omega),List.drop_of_length_le (by simp;omega),List.nil_append]
 show (List.take o _++V++List.drop (o+V.length) _).take _=_
 rw[e1,e2,← List.append_assoc,List.take_append_of_le_length (by simp;omega),List.take_of_length_le (by simp;omega)]
theorem ovr_grow (L:List α) (o:Nat) (V D:List α) (h1:o+V.length+D.length≤L.length) :
  (ovr (ovr L o V) (o+V.length) D).take (o+V.length+D.length)=L.take o++V++D:=by
 have e1:(ovr L o V).take (o+V.length)=L.take o++V:=by
  unfold ovr
  rw[List.take_append_of_le_length (by simp;omega),List.take_of_length_le (by simp;omega)]
 show (List.take _ _++D++List.drop _ _).take _=_
 rw[e1,List.take_append_of_le_length (by simp;omega),List.take_of_length_le (by simp;omega)]
end
theorem tb_take (T:Sp.Tb) (i:Nat):(tbCells T).take (i * 2)=tbCells (T.take i):=by
 induction T generalizing i with
 | nil=>simp[tbCells]
 | cons p t ih =>
  cases i with
  | zero=>simp[tbCells]
  | succ i =>
   have e:tbCells (p :: t) = .int .i32 p.1 :: .int .i64 p.2 :: tbCells t:=by simp[tbCells]
   rw[e,show (i+1) * 2=i * 2+1+1 by omega,List.take_succ_cons,List.take_succ_cons,ih]
   simp[tbCells]
theorem tb_drop (T:Sp.Tb) (i:Nat):(tbCells T).drop (i * 2)=tbCells (T.drop i):=by
 induction T generalizing i with
 | nil=>simp[tbCells]
 | cons p t ih =>
  cases i with
  | zero=>simp
  | succ i =>
   have e:tbCells (p :: t) = .int .i32 p.1 :: .int .i64 p.2 :: tbCells t:=by simp[tbCells]
   rw[e,show (i+1) * 2=i * 2+1+1 by omega,List.drop_succ_cons,List.drop_succ_cons,ih]
   simp
theorem tb_ins (T:Sp.Tb) (i:Nat) (a b:Int):(tbCells T).take (i * 2)++[.int .i32 a,.int .i64 b]++(tbCells T).drop (i * 2)=tbCells (T.take i++(a,b) :: T.drop i):=by
 rw[tb_take,tb_drop,tb_append]
 simp[tbCells]
def InsPost (w:World) (B:Nat) (v:Value) (T:Sp.Tb) (i:Nat) (a b:Int) (e:Ending) (w':World):Prop :=
 ∃ v',e = .returned v'∧w'.ownsRow B 313 2 v' (T.length+1) (tbCells (T.take i++(a,b) :: T.drop i))∧w.grownBy w' v.ownBlock
theorem insert_end (B x:Nat) (v:Value) (T:Sp.Tb) (a b:Int) (w:World) (hB:B≤w.heap.size) (h:w.ownsRow B 313 2 v T.length (tbCells T)) (hl:T.length≤100000)
  (hx:w.heap[x]? = some (.cells #[.int .i32 a,.int .i64 b] 313 (0,0))) :
  Calls Tryz.prog 165 #[v,.int .i64 T.length,.slice (some ⟨x,0,none⟩) 1 1] w (InsPost w B v T T.length a b):=by
 obtain⟨i0,hi,hz0,hz1,hz2⟩:=info_parts Tryz.info_entry
 obtain⟨p,cap,rfl,hcp⟩:=osl h
 have hcap:T.length≤cap:=by
  rcases h.2 with ⟨hv,hn⟩ | ⟨g,cap',cur,hv,_,_,hn,_⟩
  ·omega
  ·injection hv with _ _ hv;omega
 have hcm:cap≤9223372036854775807:=by
  rcases h.2 with ⟨hv,hn⟩ | ⟨g,cap',cur,hv,_,_,hn,hm,_⟩
  ·injection hv with _ _ hv;omega
  ·injection hv with _ _ hv;unfold maxLen at hm;omega
 clear hcp
 have x0:w.cell? ⟨x,0,none⟩=some (.int .i32 a):=by rw[cell_of_row w x 0 _ _ _ hx];rfl
 have x1:w.cell? ⟨x,1,none⟩=some (.int .i64 b):=by rw[cell_of_row w x 1 _ _ _ hx];rfl
 by_cases hce:cap=T.length
 ·subst hce
  go_enter Tryz.func165,Tryz.ntmps165
  go_wp2_with (first
   | (at_builtin;go_must (refine wpList_append_own _ rfl (.tmp 23) (.tmp 24) 241 rfl B 313 i0 _ 2 16 Tryz.underlying241 hi hz0 hz1 hz2 rfl (by decide) _ _ _ rfl h ⟨x,0,none⟩ 1 1 [.int .i32 a,.int .i64 b] rfl rfl ?c1 ?c2 ?c3 ?c4 ?c5 ?_))
   | go_in)
  case c1 =>
   intro j u hj
   match j,hj with
   | 0,hj=>simp at hj;subst hj;simpa [Addr.add] using x0
   | 1,hj=>simp at hj;subst hj;simpa [Addr.add] using x1
  case c2=>intro u hu;simp at hu;rcases hu with rfl | rfl <;> rfl
  case c3=>unfold maxLen;omega
  case c4=>omega
  case c5=>exact hB
  intro v3 w3 h3 hg3 _
  go_wp2
  go_ret
  refine⟨v3,rfl,?_,hg3⟩
  have e:tbCells (T.take T.length++(a,b) :: T.drop T.length)=tbCells T++[.int .i32 a,.int .i64 b]:=by simp[tbCells]
  rw[e];exact h3
 ·have hci:T.length < cap:=by omega
  go_enter Tryz.func165,Tryz.ntmps165
  go_wp2_with (first
   | (at_builtin;go_must (refine wpList_append_own _ rfl (.tmp 23) (.tmp 24) 241 rfl B 313 i0 _ 2 16 Tryz.underlying241 hi hz0 hz1 hz2 rfl (by decide) _ _ _ rfl h ⟨x,0,none⟩ 1 1 [.int .i32 a,.int .i64 b] rfl rfl ?c1 ?c2 ?c3 ?c4 ?c5 ?_))
   | go_in)
  case c1 =>
   intro j u hj
   match j,hj with
   | 0,hj=>simp at hj;subst hj;simpa [Addr.add] using x0
   | 1,hj=>simp at hj;subst hj;simpa [Addr.add] using x1
  case c2=>intro u hu;simp at hu;rcases hu with rfl | rfl <;> rfl
  case c3=>unfold maxLen;omega
  case c4=>omega
  case c5=>exact hB
  intro v3 w3 h3 hg3 _
  go_wp2
  go_ret
  refine⟨v3,rfl,?_,hg3⟩
  have e:tbCells (T.take T.length++(a,b) :: T.drop T.length)=tbCells T++[.int .i32 a,.int .i64 b]:=by simp[tbCells]
  rw[e];exact h3
end Go.Proofs.YteflnddphpjahaaGreatDoor
