import Derived.Test.YteflnddphpjahaaGreatDoorProg
import Derived.Test.YteflnddphpjahaaGreatDoorCnPlAtoCom
import Derived.Test.YteflnddphpjahaaGreatDoorCnRefA
import Derived.WalkKit
import Derived.Outline
set_option linter.unusedVariables false
set_option linter.unusedSimpArgs false
set_option maxRecDepth 100000
set_option maxHeartbeats 16000000
namespace Go.Proofs.YteflnddphpjahaaGreatDoor
open Go.RowKit
theorem toList_ne {s:ByteArray} {l:List UInt8} (h:¬ s.data.toList=l):(s.toList == l)=false:=by
 rw[beq_eq_false_iff_ne,ByteArray.toList_eq];exact h
theorem head_of {s:ByteArray} (h:0 < s.size):s.data.toList.head? = some s[0]:=by
 cases s with | mk d=>cases d with | mk l =>
 cases l with
 | nil=>exact absurd h (Nat.lt_irrefl 0)
 | cons a l=>rfl
def numOut (o:Option Int):Value := .tuple #[.int .i64 (o.getD 0),.bool o.isSome]
theorem number_pos_loop (s:ByteArray) (w:World) (hs:s.size≤4000) (hd:0 < s.size) (hneg:((s[0].toNat:Nat):Int)≠45) (hd0:((s[0].toNat:Nat):Int)≠48)
  (hz:(s.toList == [48])=false) :
  Calls Tryz.prog 238 #[.string s] w fun e w'=>e = .returned (numOut (Sp.dval s.data.toList))∧w'=w:=by
 have hd0':(((s[0].toNat:Nat):Int) == 48)=false:=beq_eq_false_iff_ne.2 hd0
 have hd1:(((s.size:Nat):Int) == 0)=false:=beq_eq_false_iff_ne.2 (by omega)
 have hneg':(((s[0].toNat:Nat):Int) == 45)=false:=beq_eq_false_iff_ne.2 hneg
 clear hneg
 go_enter Tryz.func238,Tryz.ntmps238
 go_wp2
 go_loop [5,6] (fun n i=>∃ (k:Nat) (v:Int),k≤s.size∧i = .int .i64 k∧n = .int .i64 v∧Hid (Sp.dval (s.data.toList.take k)=some v)) (fun _ i=>s.size - (intOf i).toNat)
 case atStart=>exact⟨0,0,Nat.zero_le _,rfl,rfl,rfl⟩
 case round =>
  obtain⟨k,v,hk,rfl,rfl,HV⟩:=hrel
  have hb:=Sp.dval_bd HV.out
  by_cases hlt:k < s.size
  ·have HS:Hid (Sp.dval (s.data.toList.take (k+1))=Sp.dstep (some v) s[k]):=by
    show _=_;rw[Sp.take_snoc s k hlt,Sp.dval_snoc,HV.out]
   by_cases c1:((s[k].toNat:Nat):Int) < 48
   ·have HN:Hid (Sp.dval s.data.toList=none):=Sp.dval_take_none (k:=k+1) (by rw[HS.out];exact if_pos (Or.inl c1))
    go_wp2
    go_ret2
    exact⟨by rw[HN.out];rfl,rfl⟩
   by_cases c2:57 < ((s[k].toNat:Nat):Int)
   ·have HN:Hid (Sp.dval s.data.toList=none):=Sp.dval_take_none (k:=k+1) (by rw[HS.out];exact if_pos (Or.inr (Or.inl c2)))
    go_wp2
    go_ret2
    exact⟨by rw[HN.out];rfl,rfl⟩
   by_cases c3:1000000000 < 10 * v+(((s[k].toNat:Nat):Int) - 48)
   ·have HN:Hid (Sp.dval s.data.toList=none):=Sp.dval_take_none (k:=k+1) (by rw[HS.out];exact if_pos (Or.inr (Or.inr c3)))
    go_wp2
    go_ret2
    exact⟨by rw[HN.out];rfl,rfl⟩
   ·go_wp2
    go_round
    case rel=>exact⟨k+1,_,by omega,by go_num,rfl,by show _=_;rw[HS.out];exact if_neg (by omega)⟩
    case measure=>simp[intOf];omega
  ·have HN:Hid (Sp.dval s.data.toList=some v):=by
    show _=_;rw[← Sp.take_all s k (by omega)];exact HV.out
   go_wp2
   go_ret2
   exact⟨by rw[HN.out];rfl,rfl⟩
theorem number_neg_loop (s d:ByteArray) (w:World) (hs:s.size≤4000) (hx:s.extract 1 s.size=d) (h0:0 < s.size) (hm:(((s[0].toNat:Nat):Int) == 45)=true) (hsz:d.size < s.size) (hd:0 < d.size) (hd0:((d[0].toNat:Nat):Int)≠48)
  (hz:(s.toList == [48])=false) :
  Calls Tryz.prog 238 #[.string s] w fun e w'=>e = .returned (numOut ((Sp.dval d.data.toList).map (fun n=>-n)))∧w'=w:=by
 have hd0':(((d[0].toNat:Nat):Int) == 48)=false:=beq_eq_false_iff_ne.2 hd0
 have hd1:(((d.size:Nat):Int) == 0)=false:=beq_eq_false_iff_ne.2 (by omega)
 go_enter Tryz.func238,Tryz.ntmps238
 go_wp2
 go_loop [5,6] (fun n i=>∃ (k:Nat) (v:Int),k≤d.size∧i = .int .i64 k∧n = .int .i64 v∧Hid (Sp.dval (d.data.toList.take k)=some v)) (fun _ i=>d.size - (intOf i).toNat)
 case atStart=>exact⟨0,0,Nat.zero_le _,rfl,rfl,rfl⟩
 case round =>
  obtain⟨k,v,hk,rfl,rfl,HV⟩:=hrel
  have hb:=Sp.dval_bd HV.out
  by_cases hlt:k < d.size
  ·have HS:Hid (Sp.dval (d.data.toList.take (k+1))=Sp.dstep (some v) d[k]):=by
    show _=_;rw[Sp.take_snoc d k hlt,Sp.dval_snoc,HV.out]
   by_cases c1:((d[k].toNat:Nat):Int) < 48
   ·have HN:Hid (Sp.dval d.data.toList=none):=Sp.dval_take_none (k:=k+1) (by rw[HS.out];exact if_pos (Or.inl c1))
    go_wp2
    go_ret2
    exact⟨by rw[HN.out];rfl,rfl⟩
   by_cases c2:57 < ((d[k].toNat:Nat):Int)
   ·have HN:Hid (Sp.dval d.data.toList=none):=Sp.dval_take_none (k:=k+1) (by rw[HS.out];exact if_pos (Or.inr (Or.inl c2)))
    go_wp2
    go_ret2
    exact⟨by rw[HN.out];rfl,rfl⟩
   by_cases c3:1000000000 < 10 * v+(((d[k].toNat:Nat):Int) - 48)
   ·have HN:Hid (Sp.dval d.data.toList=none):=Sp.dval_take_none (k:=k+1) (by rw[HS.out];exact if_pos (Or.inr (Or.inr c3)))
    go_wp2
    go_ret2
    exact⟨by rw[HN.out];rfl,rfl⟩
   ·go_wp2
    go_round
    case rel=>exact⟨k+1,_,by omega,by go_num,rfl,by show _=_;rw[HS.out];exact if_neg (by omega)⟩
    case measure=>simp[intOf];omega
  ·have HN:Hid (Sp.dval d.data.toList=some v):=by
    show _=_;rw[← Sp.take_all d k (by omega)];exact HV.out
   go_wp2
   go_ret2
   exact⟨by rw[HN.out];rfl,rfl⟩
theorem number_zero (s:ByteArray) (w:World) (hs:s.size≤4000) (h:s=⟨#[48]⟩) :
  Calls Tryz.prog 238 #[.string s] w fun e w'=>e = .returned (numOut (some 0))∧w'=w:=by
 subst h
 go_enter Tryz.func238,Tryz.ntmps238
 go_wp2
 go_ret2
 exact⟨rfl,rfl⟩
theorem number_empty (w:World) :
  Calls Tryz.prog 238 #[.string ByteArray.empty] w fun e w'=>e = .returned (numOut none)∧w'=w:=by
 have hz:(ByteArray.empty.toList == [48])=false:=toList_ne (by decide)
 go_enter Tryz.func238,Tryz.ntmps238
 go_wp2
 go_ret2
 exact⟨rfl,rfl⟩
theorem number_pos_no (s:ByteArray) (w:World) (hs:s.size≤4000) (hd:0 < s.size) (h48:(((s[0].toNat:Nat):Int) == 48)=true) (hneg:(((s[0].toNat:Nat):Int) == 45)=false)
  (hz:(s.toList == [48])=false) :
  Calls Tryz.prog 238 #[.string s] w fun e w'=>e = .returned (numOut none)∧w'=w:=by
 have hd1:(((s.size:Nat):Int) == 0)=false:=beq_eq_false_iff_ne.2 (by omega)
 go_enter Tryz.func238,Tryz.ntmps238
 go_wp2
 go_ret2
 exact⟨rfl,rfl⟩
theorem number_neg_empty (s d:ByteArray) (w:World) (hs:s.size≤4000) (hx:s.extract 1 s.size=d) (h0:0 < s.size) (hm:(((s[0].toNat:Nat):Int) == 45)=true) (hd:d.size=0)
  (hz:(s.toList == [48])=false) :
  Calls Tryz.prog 238 #[.string s] w fun e w'=>e = .returned (numOut none)∧w'=w:=by
 have hd1:(((d.size:Nat):Int) == 0)=true:=beq_iff_eq.2 (by omega)
 clear hd
 go_enter Tryz.func238,Tryz.ntmps238
 go_wp2
 go_ret2
 exact⟨rfl,rfl⟩
theorem number_neg_no (s d:ByteArray) (w:World) (hs:s.size≤4000) (hx:s.extract 1 s.size=d) (h0:0 < s.size) (hm:(((s[0].toNat:Nat):Int) == 45)=true) (hd:0 < d.size)
  (h48:(((d[0].toNat:Nat):Int) == 48)=true) (hz:(s.toList == [48])=false) :
  Calls Tryz.prog 238 #[.string s] w fun e w'=>e = .returned (numOut none)∧w'=w:=by
 have hd1:(((d.size:Nat):Int) == 0)=false:=beq_eq_false_iff_ne.2 (by omega)
 go_enter Tryz.func238,Tryz.ntmps238
 go_wp2
 go_ret2
 exact⟨rfl,rfl⟩
theorem tail_of {s:ByteArray}:(s.extract 1 s.size).data.toList=s.data.toList.tail:=by
 rw[ByteArray.data_extract,Array.toList_extract]
 show (s.data.toList.drop 1).take (s.data.size - 1)=_
 rw[List.take_of_length_le (by simp),List.drop_one]
theorem head_ne {s:ByteArray} (c:UInt8) (h:0 < s.size) (hd:((s[0].toNat:Nat):Int)≠(c.toNat:Int)):s.data.toList.head?≠some c:=by
 rw[head_of h];intro e;injection e with e;apply hd;rw[e]
theorem head_is {s:ByteArray} (c:UInt8) (h:0 < s.size) (hd:((s[0].toNat:Nat):Int)=(c.toNat:Int)):s.data.toList.head? = some c:=by
 rw[head_of h];congr 1;apply UInt8.toNat_inj.1;omega
theorem ne_nil {s:ByteArray} (h:0 < s.size):s.data.toList≠[]:=by
 intro e
 have h1:s.data.toList.length=0:=by rw[e];rfl
 rw[Array.length_toList] at h1
 have h2:s.data.size=s.size:=rfl
 omega
theorem nil_of {s:ByteArray} (h:¬ 0 < s.size):s.data.toList=[]:=by
 apply List.eq_nil_of_length_eq_zero
 rw[Array.length_toList]
 have h2:s.data.size=s.size:=rfl
 omega
theorem number_any (s:ByteArray) (w:World) (hs:s.size≤4000) :
  Calls Tryz.prog 238 #[.string s] w fun e w'=>e = .returned (numOut (Sp.number s.data.toList))∧w'=w:=by
 by_cases hz:s.data.toList=[48]
 ·have e:s=⟨#[48]⟩:=by apply ByteArray.ext;apply Array.ext';exact hz
  have:=number_zero s w hs e
  rw[show Sp.number s.data.toList=some 0 from if_pos hz];exact this
 have hz':=toList_ne hz
 by_cases h0:0 < s.size
 ·by_cases hm:((s[0].toNat:Nat):Int)=45
  ·have e1:Sp.number s.data.toList=(Sp.digits s.data.toList.tail).map (fun n=>-n):=by
    unfold Sp.number;rw[if_neg hz,if_pos (head_is 45 h0 hm)]
   rw[e1,← tail_of]
   obtain⟨d,hx⟩:∃ d,s.extract 1 s.size=d:=⟨_,rfl⟩
   rw[hx]
   have hsz:d.size < s.size:=by rw[← hx];simp;omega
   by_cases hd:0 < d.size
   ·by_cases h48:((d[0].toNat:Nat):Int)=48
    ·rw[show Sp.digits d.data.toList=none from if_pos (Or.inr (head_is 48 hd h48))]
     exact number_neg_no s d w hs hx h0 (beq_iff_eq.2 hm) hd (beq_iff_eq.2 h48) hz'
    ·have hne:=ne_nil hd
     rw[show Sp.digits d.data.toList=Sp.dval d.data.toList from if_neg (by rintro(e | e);exact hne e;exact head_ne 48 hd h48 e)]
     exact number_neg_loop s d w hs hx h0 (beq_iff_eq.2 hm) hsz hd h48 hz'
   ·have hd0:d.size=0:=by omega
    have hnil:=nil_of hd
    rw[show Sp.digits d.data.toList=none from if_pos (Or.inl hnil)]
    exact number_neg_empty s d w hs hx h0 (beq_iff_eq.2 hm) hd0 hz'
  ·have e1:Sp.number s.data.toList=Sp.digits s.data.toList:=by
    unfold Sp.number;rw[if_neg hz,if_neg (head_ne 45 h0 hm)]
   rw[e1]
   by_cases h48:((s[0].toNat:Nat):Int)=48
   ·rw[show Sp.digits s.data.toList=none from if_pos (Or.inr (head_is 48 h0 h48))]
    exact number_pos_no s w hs h0 (beq_iff_eq.2 h48) (beq_eq_false_iff_ne.2 hm) hz'
   ·have hne:=ne_nil h0
    rw[show Sp.digits s.data.toList=Sp.dval s.data.toList from if_neg (by rintro(e | e);exact hne e;exact head_ne 48 h0 h48 e)]
    exact number_pos_loop s w hs h0 hm h48 hz'
 ·have hnil:=nil_of h0
  have e:s=ByteArray.empty:=by apply ByteArray.ext;apply Array.ext';exact hnil
  subst e
  exact number_empty w
theorem broken_any (s:ByteArray) (w:World) (hs:s.size≤4000) :
  Calls Tryz.prog 155 #[.string s] w fun e w'=>e = .returned (.int .i64 (Sp.badInt (Sp.bad s)))∧w'=w:=by
 go_enter Tryz.func155,Tryz.ntmps155
 go_wp2
 go_loop [3] (fun i=>∃ (k f:Nat),k≤s.size∧s.size - k≤f∧i = .int .i64 k∧Hid (Sp.badFrom s f k=Sp.bad s)) (fun i=>s.size - (intOf i).toNat)
 case atStart=>exact⟨0,s.size,Nat.zero_le _,by omega,rfl,rfl⟩
 case round =>
  obtain⟨k,f,hk,hf,rfl,HB⟩:=hrel
  by_cases hlt:k < s.size
  ·obtain⟨f,rfl⟩:∃ g,f=g+1:=⟨f - 1,by omega⟩
   have hsz:=Sp.dec_size hlt
   by_cases hd:Utf8.decode s k=(65533,1)
   ·have HE:Hid (Sp.bad s=some k):=by
     show _=_;rw[← HB.out];simp only[Sp.badFrom];rw[if_pos hlt,if_pos hd]
    have HR:Hid (Sp.refRune s k=(0,0)):=Sp.ref_of_bad hd
    clear hd
    go_wp2_with (go_at_call 236;refine(rune_any s k _ rfl _ hs hlt).mono ?_;rintro e w' ⟨rfl,rfl⟩;rw[HR.out])
    go_ret
    exact⟨by rw[HE.out];rfl,rfl⟩
   ·have HE:Hid (Sp.badFrom s f (k+(Utf8.decode s k).2)=Sp.bad s):=by
     show _=_;rw[← HB.out];simp only[Sp.badFrom];rw[if_pos hlt,if_neg hd]
    have HR:Hid (Sp.refRune s k=(((Utf8.decode s k).1:Int),((Utf8.decode s k).2:Int))):=Sp.ref_of_good hd
    clear hd
    generalize Utf8.decode s k=D at hsz HE HR
    have hne:(((D.2:Nat):Int) == 0)=false:=beq_eq_false_iff_ne.2 (by omega)
    go_wp2_with (go_at_call 236;refine(rune_any s k _ rfl _ hs hlt).mono ?_;rintro e w' ⟨rfl,rfl⟩;rw[HR.out])
    go_round
    case rel=>exact⟨k+D.2,f,by omega,by omega,by go_num,HE⟩
    case measure=>simp[intOf];omega
  ·have HE:Hid (Sp.bad s=none):=by
    show _=_;rw[← HB.out]
    cases f with
    | zero=>rfl
    | succ f=>simp only[Sp.badFrom];rw[if_neg hlt]
   go_wp2
   go_ret
   exact⟨by rw[HE.out];rfl,rfl⟩
def nameOut (s:ByteArray) (i:Nat):Int × Int :=
 if i < s.size∧Sp.bt s i≠32∧Sp.bt s i≠62 then ((Sp.refRune s i).1,(i:Int)+(Sp.refRune s i).2) else (0,-1)
theorem ref_bd (s:ByteArray) (i:Nat) (hi:i < s.size):0≤(Sp.refRune s i).2∧(Sp.refRune s i).2≤4:=by
 unfold Sp.refRune;have:=Sp.dec_size hi
 split <;> simp only <;> omega
theorem name_any (s:ByteArray) (i:Nat) (n:Int) (hn:n=(i:Int)) (w:World) (hs:s.size≤4000) (hi:i≤5000) :
  Calls Tryz.prog 237 #[.string s,.int .i64 n] w fun e w'=>e = .returned (.tuple #[.int .i64 (nameOut s i).1,.int .i64 (nameOut s i).2])∧w'=w:=by
 subst hn
 by_cases hlt:i < s.size
 ·have eb:=Sp.bt_of s i hlt
  have hr:=ref_bd s i hlt
  by_cases h1:Sp.bt s i=32
  ·rw[show nameOut s i=(0,-1) from if_neg (by omega)]
   have g1:(((Sp.bt s i:Nat):Int) == 32)=true:=beq_iff_eq.2 (by omega)
   go_enter Tryz.func237,Tryz.ntmps237
   go_wp2
   go_ret2
   exact⟨rfl,rfl⟩
  ·have g1:(((Sp.bt s i:Nat):Int) == 32)=false:=beq_eq_false_iff_ne.2 (by omega)
   by_cases h2:Sp.bt s i=62
   ·rw[show nameOut s i=(0,-1) from if_neg (by omega)]
    have g2:(((Sp.bt s i:Nat):Int) == 62)=true:=beq_iff_eq.2 (by omega)
    go_enter Tryz.func237,Tryz.ntmps237
    go_wp2
    go_ret2
    exact⟨rfl,rfl⟩
   ·rw[show nameOut s i=((Sp.refRune s i).1,(i:Int)+(Sp.refRune s i).2) from if_pos ⟨hlt,h1,h2⟩]
    have g2:(((Sp.bt s i:Nat):Int) == 62)=false:=beq_eq_false_iff_ne.2 (by omega)
    generalize hR:Sp.refRune s i=R at hr ⊢
    have HR:=hde hR
    clear hR h1 h2
    go_enter Tryz.func237,Tryz.ntmps237
    go_wp2_with (go_at_call 236;refine(rune_any s i _ rfl _ hs hlt).mono ?_;rintro e w' ⟨rfl,rfl⟩;rw[uh HR])
    go_ret2
    exact⟨rfl,rfl⟩
 ·rw[show nameOut s i=(0,-1) from if_neg (by omega)]
  have h':s.size≤i:=by omega
  go_enter Tryz.func237,Tryz.ntmps237
  go_wp2
  go_ret2
  exact⟨rfl,rfl⟩
end Go.Proofs.YteflnddphpjahaaGreatDoor
