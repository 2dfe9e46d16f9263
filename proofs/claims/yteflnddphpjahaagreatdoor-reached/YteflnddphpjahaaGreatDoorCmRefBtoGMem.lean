import Derived.Test.YteflnddphpjahaaGreatDoorProg
import Derived.Test.YteflnddphpjahaaGreatDoorCmPlAtoRefA
import Derived.WalkKit
import Derived.Outline
import Derived.Test.YteflnddphpjahaaGreatDoorCmShelf
import Derived.Deep.DeepMust
import Derived.Deep.QuietTactic
import Derived.BigQuiet
import Derived.Deep.AppendLies
set_option linter.unusedVariables false
set_option linter.unusedSimpArgs false
set_option maxRecDepth 100000
set_option maxHeartbeats 16000000
namespace Go.Proofs.YteflnddphpjahaaGreatDoor
open Go.RowKit
theorem toList_ne {s:ByteArray} {l:List UInt8} (h:¬ s.data.toList=l):(s.toList == l)=false:=by
 rw[beq_eq_false_iff_ne,ByteArray.toList_eq];exact h
theorem toList_is {s:ByteArray} {l:List UInt8} (h:s.data.toList=l):(s.toList == l)=true:=by
 rw[beq_iff_eq,ByteArray.toList_eq];exact h
theorem head_of {s:ByteArray} (h:0 < s.size):s.data.toList.head? = some s[0]:=by
 cases s with | mk d=>cases d with | mk l =>
 cases l with
 | nil=>exact absurd h (Nat.lt_irrefl 0)
 | cons a l=>rfl
def numOut (o:Option Int):Value := .tuple #[.int .i64 (o.getD 0),.bool o.isSome]
theorem number_pos_loop (s:ByteArray) (w:World) (hs:s.size≤4000) (hd:0 < s.size) (hneg:((s[0].toNat:Nat):Int)≠45) (hd0:((s[0].toNat:Nat):Int)≠48)
  (hz:(s.toList == [48])=false) :
  Calls Tryz.prog 238 #[.string s] w fun e w'=>e = .returned (numOut (Sp.dval s.data.toList))∧w'=w:=by
 have hd0':(((s[0].toNat:Nat):Int) == 48)=false:=beq_eq_false_iff_ne.2 hd0
 have hd1:(((s.size:Nat):Int) == 0)=false:=beq_eq_false_iff_ne.2 (by omega)
 have hneg':(((s[0].toNat:Nat):Int) == 45)=false:=beq_eq_false_iff_ne.2 hneg
 clear hneg
 go_enter Tryz.func238,Tryz.ntmps238
 go_wp2
 go_loop [5,6] (fun n i=>∃ (k:Nat) (v:Int),k≤s.size∧i = .int .i64 k∧n = .int .i64 v∧Hid (Sp.dval (s.data.toList.take k)=some v)) (fun _ i=>s.size - (intOf i).toNat)
 case atStart=>exact⟨0,0,Nat.zero_le _,rfl,rfl,rfl⟩
 case round =>
  obtain⟨k,v,hk,rfl,rfl,HV⟩:=hrel
  have hb:=Sp.dval_bd HV.out
  by_cases hlt:k < s.size
  ·have HS:Hid (Sp.dval (s.data.toList.take (k+1))=Sp.dstep (some v) s[k]):=by
    show _=_;rw[Sp.take_snoc s k hlt,Sp.dval_snoc,HV.out]
   by_cases c1:((s[k].toNat:Nat):Int) < 48
   ·have HN:Hid (Sp.dval s.data.toList=none):=Sp.dval_take_none (k:=k+1) (by rw[HS.out];exact if_pos (Or.inl c1))
    go_wp2
    go_ret2
    exact⟨by rw[HN.out];rfl,rfl⟩
   by_cases c2:57 < ((s[k].toNat:Nat):Int)
   ·have HN:Hid (Sp.dval s.data.toList=none):=Sp.dval_take_none (k:=k+1) (by rw[HS.out];exact if_pos (Or.inr (Or.inl c2)))
    go_wp2
    go_ret2
    exact⟨by rw[HN.out];rfl,rfl⟩
   by_cases c3:1000000000 < 10 * v+(((s[k].toNat:Nat):Int) - 48)
   ·have HN:Hid (Sp.dval s.data.toList=none):=Sp.dval_take_none (k:=k+1) (by rw[HS.out];exact if_pos (Or.inr (Or.inr c3)))
    go_wp2
    go_ret2
    exact⟨by rw[HN.out];rfl,rfl⟩
   ·go_wp2
    go_round
    case rel=>exact⟨k+1,_,by omega,by go_num,rfl,by show _=_;rw[HS.out];exact if_neg (by omega)⟩
    case measure=>simp[intOf];omega
  ·have HN:Hid (Sp.dval s.data.toList=some v):=by
    show _=_;rw[← Sp.take_all s k (by omega)];exact HV.out
   go_wp2
   go_ret2
   exact⟨by rw[HN.out];rfl,rfl⟩
theorem number_neg_loop (s d:ByteArray) (w:World) (hs:s.size≤4000) (hx:s.extract 1 s.size=d) (h0:0 < s.size) (hm:(((s[0].toNat:Nat):Int) == 45)=true) (hsz:d.size < s.size) (hd:0 < d.size) (hd0:((d[0].toNat:Nat):Int)≠48)
  (hz:(s.toList == [48])=false) :
  Calls Tryz.prog 238 #[.string s] w fun e w'=>e = .returned (numOut ((Sp.dval d.data.toList).map (fun n=>-n)))∧w'=w:=by
 have hd0':(((d[0].toNat:Nat):Int) == 48)=false:=beq_eq_false_iff_ne.2 hd0
 have hd1:(((d.size:Nat):Int) == 0)=false:=beq_eq_false_iff_ne.2 (by omega)
 go_enter Tryz.func238,Tryz.ntmps238
 go_wp2
 go_loop [5,6] (fun n i=>∃ (k:Nat) (v:Int),k≤d.size∧i = .int .i64 k∧n = .int .i64 v∧Hid (Sp.dval (d.data.toList.take k)=some v)) (fun _ i=>d.size - (intOf i).toNat)
 case atStart=>exact⟨0,0,Nat.zero_le _,rfl,rfl,rfl⟩
 case round =>
  obtain⟨k,v,hk,rfl,rfl,HV⟩:=hrel
  have hb:=Sp.dval_bd HV.out
  by_cases hlt:k < d.size
  ·have HS:Hid (Sp.dval (d.data.toList.take (k+1))=Sp.dstep (some v) d[k]):=by
    show _=_;rw[Sp.take_snoc d k hlt,Sp.dval_snoc,HV.out]
   by_cases c1:((d[k].toNat:Nat):Int) < 48
   ·have HN:Hid (Sp.dval d.data.toList=none):=Sp.dval_take_none (k:=k+1) (by rw[HS.out];exact if_pos (Or.inl c1))
    go_wp2
    go_ret2
    exact⟨by rw[HN.out];rfl,rfl⟩
   by_cases c2:57 < ((d[k].toNat:Nat):Int)
   ·have HN:Hid (Sp.dval d.data.toList=none):=Sp.dval_take_none (k:=k+1) (by rw[HS.out];exact if_pos (Or.inr (Or.inl c2)))
    go_wp2
    go_ret2
    exact⟨by rw[HN.out];rfl,rfl⟩
   by_cases c3:1000000000 < 10 * v+(((d[k].toNat:Nat):Int) - 48)
   ·have HN:Hid (Sp.dval d.data.toList=none):=Sp.dval_take_none (k:=k+1) (by rw[HS.out];exact if_pos (Or.inr (Or.inr c3)))
    go_wp2
    go_ret2
    exact⟨by rw[HN.out];rfl,rfl⟩
   ·go_wp2
    go_round
    case rel=>exact⟨k+1,_,by omega,by go_num,rfl,by show _=_;rw[HS.out];exact if_neg (by omega)⟩
    case measure=>simp[intOf];omega
  ·have HN:Hid (Sp.dval d.data.toList=some v):=by
    show _=_;rw[← Sp.take_all d k (by omega)];exact HV.out
   go_wp2
   go_ret2
   exact⟨by rw[HN.out];rfl,rfl⟩
theorem number_zero (s:ByteArray) (w:World) (hs:s.size≤4000) (h:s=⟨#[48]⟩) :
  Calls Tryz.prog 238 #[.string s] w fun e w'=>e = .returned (numOut (some 0))∧w'=w:=by
 subst h
 go_enter Tryz.func238,Tryz.ntmps238
 go_wp2
 go_ret2
 exact⟨rfl,rfl⟩
theorem number_empty (w:World) :
  Calls Tryz.prog 238 #[.string ByteArray.empty] w fun e w'=>e = .returned (numOut none)∧w'=w:=by
 have hz:(ByteArray.empty.toList == [48])=false:=toList_ne (by decide)
 go_enter Tryz.func238,Tryz.ntmps238
 go_wp2
 go_ret2
 exact⟨rfl,rfl⟩
theorem number_pos_no (s:ByteArray) (w:World) (hs:s.size≤4000) (hd:0 < s.size) (h48:(((s[0].toNat:Nat):Int) == 48)=true) (hneg:(((s[0].toNat:Nat):Int) == 45)=false)
  (hz:(s.toList == [48])=false) :
  Calls Tryz.prog 238 #[.string s] w fun e w'=>e = .returned (numOut none)∧w'=w:=by
 have hd1:(((s.size:Nat):Int) == 0)=false:=beq_eq_false_iff_ne.2 (by omega)
 go_enter Tryz.func238,Tryz.ntmps238
 go_wp2
 go_ret2
 exact⟨rfl,rfl⟩
theorem number_neg_empty (s d:ByteArray) (w:World) (hs:s.size≤4000) (hx:s.extract 1 s.size=d) (h0:0 < s.size) (hm:(((s[0].toNat:Nat):Int) == 45)=true) (hd:d.size=0)
  (hz:(s.toList == [48])=false) :
  Calls Tryz.prog 238 #[.string s] w fun e w'=>e = .returned (numOut none)∧w'=w:=by
 have hd1:(((d.size:Nat):Int) == 0)=true:=beq_iff_eq.2 (by omega)
 clear hd
 go_enter Tryz.func238,Tryz.ntmps238
 go_wp2
 go_ret2
 exact⟨rfl,rfl⟩
theorem number_neg_no (s d:ByteArray) (w:World) (hs:s.size≤4000) (hx:s.extract 1 s.size=d) (h0:0 < s.size) (hm:(((s[0].toNat:Nat):Int) == 45)=true) (hd:0 < d.size)
  (h48:(((d[0].toNat:Nat):Int) == 48)=true) (hz:(s.toList == [48])=false) :
  Calls Tryz.prog 238 #[.string s] w fun e w'=>e = .returned (numOut none)∧w'=w:=by
 have hd1:(((d.size:Nat):Int) == 0)=false:=beq_eq_false_iff_ne.2 (by omega)
 go_enter Tryz.func238,Tryz.ntmps238
 go_wp2
 go_ret2
 exact⟨rfl,rfl⟩
theorem tail_of {s:ByteArray}:(s.extract 1 s.size).data.toList=s.data.toList.tail:=by
 rw[ByteArray.data_extract,Array.toList_extract]
 show (s.data.toList.drop 1).take (s.data.size - 1)=_
 rw[List.take_of_length_le (by simp),List.drop_one]
theorem head_ne {s:ByteArray} (c:UInt8) (h:0 < s.size) (hd:((s[0].toNat:Nat):Int)≠(c.toNat:Int)):s.data.toList.head?≠some c:=by
 rw[head_of h];intro e;injection e with e;apply hd;rw[e]
theorem head_is {s:ByteArray} (c:UInt8) (h:0 < s.size) (hd:((s[0].toNat:Nat):Int)=(c.toNat:Int)):s.data.toList.head? = some c:=by
 rw[head_of h];congr 1;apply UInt8.toNat_inj.1;omega
theorem ne_nil {s:ByteArray} (h:0 < s.size):s.data.toList≠[]:=by
 intro e
 have h1:s.data.toList.length=0:=by rw[e];rfl
 rw[Array.length_toList] at h1
 have h2:s.data.size=s.size:=rfl
 omega
theorem nil_of {s:ByteArray} (h:¬ 0 < s.size):s.data.toList=[]:=by
 apply List.eq_nil_of_length_eq_zero
 rw[Array.length_toList]
 have h2:s.data.size=s.size:=rfl
 omega
theorem number_any (s:ByteArray) (w:World) (hs:s.size≤4000) :
  Calls Tryz.prog 238 #[.string s] w fun e w'=>e = .returned (numOut (Sp.number s.data.toList))∧w'=w:=by
 by_cases hz:s.data.toList=[48]
 ·have e:s=⟨#[48]⟩:=by apply ByteArray.ext;apply Array.ext';exact hz
  have:=number_zero s w hs e
  rw[show Sp.number s.data.toList=some 0 from if_pos hz];exact this
 have hz':=toList_ne hz
 by_cases h0:0 < s.size
 ·by_cases hm:((s[0].toNat:Nat):Int)=45
  ·have e1:Sp.number s.data.toList=(Sp.digits s.data.toList.tail).map (fun n=>-n):=by
    unfold Sp.number;rw[if_neg hz,if_pos (head_is 45 h0 hm)]
   rw[e1,← tail_of]
   obtain⟨d,hx⟩:∃ d,s.extract 1 s.size=d:=⟨_,rfl⟩
   rw[hx]
   have hsz:d.size < s.size:=by rw[← hx];simp;omega
   by_cases hd:0 < d.size
   ·by_cases h48:((d[0].toNat:Nat):Int)=48
    ·rw[show Sp.digits d.data.toList=none from if_pos (Or.inr (head_is 48 hd h48))]
     exact number_neg_no s d w hs hx h0 (beq_iff_eq.2 hm) hd (beq_iff_eq.2 h48) hz'
    ·have hne:=ne_nil hd
     rw[show Sp.digits d.data.toList=Sp.dval d.data.toList from if_neg (by rintro(e | e);exact hne e;exact head_ne 48 hd h48 e)]
     exact number_neg_loop s d w hs hx h0 (beq_iff_eq.2 hm) hsz hd h48 hz'
   ·have hd0:d.size=0:=by omega
    have hnil:=nil_of hd
    rw[show Sp.digits d.data.toList=none from if_pos (Or.inl hnil)]
    exact number_neg_empty s d w hs hx h0 (beq_iff_eq.2 hm) hd0 hz'
  ·have e1:Sp.number s.data.toList=Sp.digits s.data.toList:=by
    unfold Sp.number;rw[if_neg hz,if_neg (head_ne 45 h0 hm)]
   rw[e1]
   by_cases h48:((s[0].toNat:Nat):Int)=48
   ·rw[show Sp.digits s.data.toList=none from if_pos (Or.inr (head_is 48 h0 h48))]
    exact number_pos_no s w hs h0 (beq_iff_eq.2 h48) (beq_eq_false_iff_ne.2 hm) hz'
   ·have hne:=ne_nil h0
    rw[show Sp.digits s.data.toList=Sp.dval s.data.toList from if_neg (by rintro(e | e);exact hne e;exact head_ne 48 h0 h48 e)]
    exact number_pos_loop s w hs h0 hm h48 hz'
 ·have hnil:=nil_of h0
  have e:s=ByteArray.empty:=by apply ByteArray.ext;apply Array.ext';exact hnil
  subst e
  exact number_empty w
theorem numOut_none:numOut none = .tuple #[.int .i64 0,.bool false]:=rfl
theorem numOut_some (v:Int):numOut (some v) = .tuple #[.int .i64 v,.bool true]:=rfl
theorem readSize_no (d:ByteArray) (w:World) (hs:d.size≤4000) (h:d.size=0∨∃ h0:0 < d.size,((d[0].toNat:Nat):Int)=48) :
  Calls Tryz.prog 247 #[.string d] w fun e w'=>e = .returned (numOut none)∧w'=w:=by
 rcases h with h | ⟨h0,h⟩
 ·have hne:d.toList.isEmpty=true:=by rw[ByteArray.toList_eq,nil_of (by omega)];rfl
  go_enter Tryz.func247,Tryz.ntmps247
  go_wp2
  go_ret2
  exact⟨rfl,rfl⟩
 ·have hne:d.toList.isEmpty=false:=by
   rw[ByteArray.toList_eq]
   cases hq:d.data.toList with
   | nil=>exact absurd hq (ne_nil h0)
   | cons _ _=>rfl
  have h':(((d[0].toNat:Nat):Int) == 48)=true:=beq_iff_eq.2 h
  clear h
  go_enter Tryz.func247,Tryz.ntmps247
  go_wp2
  go_ret2
  exact⟨rfl,rfl⟩
theorem readSize_loop (d:ByteArray) (w:World) (hs:d.size≤4000) (hd:0 < d.size) (hd0:((d[0].toNat:Nat):Int)≠48) :
  Calls Tryz.prog 247 #[.string d] w fun e w'=>e = .returned (numOut (Sp.dval d.data.toList))∧Below w.heap.size w w':=by
 have hne:d.toList.isEmpty=false:=by
  rw[ByteArray.toList_eq]
  cases hq:d.data.toList with
  | nil=>exact absurd hq (ne_nil hd)
  | cons _ _=>rfl
 have hd0':(((d[0].toNat:Nat):Int) == 48)=false:=beq_eq_false_iff_ne.2 hd0
 go_enter Tryz.func247,Tryz.ntmps247
 go_wp2_with fail
 go_loopw [4] (fun n wr=>∃ (k:Nat) (v:Int),k≤d.size∧n = .int .i64 v∧Hid (Sp.dval (d.data.toList.take k)=some v)∧wr=w.iter d k) (fun _ wr=>d.size - wr.iterPos w.heap.size)
 case atStart=>exact⟨0,0,Nat.zero_le _,rfl,rfl,rfl⟩
 case round =>
  obtain⟨k,v,hk,rfl,HV,rfl⟩:=hrel
  have hb:=Sp.dval_bd HV.out
  have hbel:∀ p,Below w.heap.size w (w.iter d p):=fun p=>(Below.refl _ _).alloc nlr _
  by_cases hlt:k < d.size
  ·have HS:Hid (Sp.dval (d.data.toList.take (k+1))=Sp.dstep (some v) d[k]):=by
    show _=_;rw[Sp.take_snoc d k hlt,Sp.dval_snoc,HV.out]
   by_cases ha:(d[k].toNat) < 128
   ·have hnx:=fun ty=>run_next_ascii (P:=Tryz.prog) w d k ty hlt ha
    by_cases c1:((d[k].toNat:Nat):Int) < 48
    ·have HN:Hid (Sp.dval d.data.toList=none):=Sp.dval_take_none (k:=k+1) (by rw[HS.out];exact if_pos (Or.inl c1))
     go_wp2
     go_ret2
     exact⟨by rw[HN.out];rfl,hbel _⟩
    by_cases c2:57 < ((d[k].toNat:Nat):Int)
    ·have HN:Hid (Sp.dval d.data.toList=none):=Sp.dval_take_none (k:=k+1) (by rw[HS.out];exact if_pos (Or.inr (Or.inl c2)))
     go_wp2
     go_ret2
     exact⟨by rw[HN.out];rfl,hbel _⟩
    by_cases c3:1000000000 < v * 10+(((d[k].toNat:Nat):Int) - 48)
    ·have HN:Hid (Sp.dval d.data.toList=none):=Sp.dval_take_none (k:=k+1) (by rw[HS.out];exact if_pos (Or.inr (Or.inr (by omega))))
     go_wp2
     go_ret2
     exact⟨by rw[HN.out];rfl,hbel _⟩
    ·go_wp2
     go_roundw
     case rel=>exact⟨k+1,_,by omega,rfl,by show _=_;rw[HS.out];rw[show v * 10=10 * v from by omega];exact if_neg (by omega),rfl⟩
     case measure=>simp;omega
   ·have hnx:=fun ty=>run_next_any (P:=Tryz.prog) w d k ty hlt
    have hhi:=(decode_high d k hlt (by omega)).1
    have hle:=decode_le d k
    have HN:Hid (Sp.dval d.data.toList=none):=Sp.dval_take_none (k:=k+1) (by rw[HS.out];exact if_pos (Or.inr (Or.inl (by omega))))
    generalize Utf8.decode d k=D at hnx hhi hle
    have hhi':128≤((D.1:Nat):Int):=by omega
    go_wp2
    go_ret2
    exact⟨by rw[HN.out];rfl,hbel _⟩
  ·have HN:Hid (Sp.dval d.data.toList=some v):=by
    show _=_;rw[← Sp.take_all d k (by omega)];exact HV.out
   have hnx:=fun ty=>run_next_end (P:=Tryz.prog) w d k ty hlt
   go_wp2
   go_ret2
   exact⟨by rw[HN.out];rfl,hbel _⟩
theorem readSize_any (d:ByteArray) (w:World) (hs:d.size≤4000) :
  Calls Tryz.prog 247 #[.string d] w fun e w'=>e = .returned (numOut (Sp.digits d.data.toList))∧Below w.heap.size w w':=by
 by_cases hd:0 < d.size
 ·by_cases h48:((d[0].toNat:Nat):Int)=48
  ·rw[show Sp.digits d.data.toList=none from if_pos (Or.inr (head_is 48 hd h48))]
   exact(readSize_no d w hs (Or.inr ⟨hd,h48⟩)).mono fun e w' h=>⟨h.1,by rw[h.2];exact Below.refl _ _⟩
  ·have hne:=ne_nil hd
   rw[show Sp.digits d.data.toList=Sp.dval d.data.toList from if_neg (by rintro(e | e);exact hne e;exact head_ne 48 hd h48 e)]
   exact readSize_loop d w hs hd h48
 ·rw[show Sp.digits d.data.toList=none from if_pos (Or.inl (nil_of hd))]
  exact(readSize_no d w hs (Or.inl (by omega))).mono fun e w' h=>⟨h.1,by rw[h.2];exact Below.refl _ _⟩
theorem pre_yes {l:List UInt8} (h:l.head? = some 45):Lib.hasPrefix l [45]=true∧Lib.trimPrefix l [45]=l.tail:=by
 cases l with
 | nil=>cases h
 | cons a l =>
  injection h with h
  subst h
  exact⟨rfl,rfl⟩
theorem pre_no {l:List UInt8} (h:¬ l.head? = some 45):Lib.hasPrefix l [45]=false∧Lib.trimPrefix l [45]=l:=by
 cases l with
 | nil=>exact⟨rfl,rfl⟩
 | cons a l =>
  have ha:¬ a=45:=fun e=>h (by rw[e];rfl)
  have e1:Lib.hasPrefix (a :: l) [45]=false:=by
   simp[Lib.hasPrefix,List.isPrefixOf];exact fun e=>ha e.symm
  exact⟨e1,by unfold Lib.trimPrefix;rw[e1];rfl⟩
theorem numRead_any (s:ByteArray) (w:World) (hs:s.size≤4000) :
  Calls Tryz.prog 163 #[.string s] w fun e w'=>e = .returned (numOut (Sp.number s.data.toList))∧Below w.heap.size w w':=by
 have hcut:=Tryz.strings_CutPrefix s ⟨#[45]⟩ w
 by_cases hm:s.data.toList.head? = some 45
 ·obtain⟨e1,e2⟩:=pre_yes hm
  have hz:¬ s.data.toList=[48]:=fun e=>by rw[e] at hm;cases hm
  have en:Sp.number s.data.toList=(Sp.digits s.data.toList.tail).map (fun n=>-n):=by unfold Sp.number;rw[if_neg hz,if_pos hm]
  rw[en]
  obtain⟨d,hd⟩:∃ d:ByteArray,d=⟨s.data.toList.tail.toArray⟩:=⟨_,rfl⟩
  have hdl:d.data.toList=s.data.toList.tail:=by rw[hd]
  have hds:d.size≤4000:=by
   have:d.data.toList.length≤s.data.toList.length:=by rw[hdl,List.length_tail];omega
   rw[Array.length_toList,Array.length_toList] at this
   have a1:d.data.size=d.size:=rfl
   have a2:s.data.size=s.size:=rfl
   omega
  rw[show ((⟨#[45]⟩:ByteArray).data.toList)=[45] from rfl,e1,e2,← hd] at hcut
  rw[← hdl]
  clear hd e1 e2 hm hz en hdl
  have HC:=hde hcut
  clear hcut
  by_cases h0:d.data.toList=[48]
  ·have h0':=toList_is h0
   have HD:Hid (Sp.digits d.data.toList=none):=by show _=_;unfold Sp.digits;rw[h0];simp
   go_enter Tryz.func163,Tryz.ntmps163
   go_wp2_with fail
   refine(uh HC).mono ?_
   rintro e w1 ⟨rfl,hw⟩
   obtain rfl:=hw.symm
   go_wp2
   go_ret2
   exact⟨by rw[uh HD];rfl,Below.refl _ _⟩
  ·have h0':=toList_ne h0
   cases hq:Sp.digits d.data.toList with
   | none =>
    have HQ:=hde hq
    clear hq h0
    go_enter Tryz.func163,Tryz.ntmps163
    go_wp2_with fail
    refine(uh HC).mono ?_
    rintro e w1 ⟨rfl,hw⟩
    obtain rfl:=hw.symm
    go_wp2_with fail
    refine(readSize_any d _ hds).mono ?_
    rintro e w2 ⟨rfl,hb⟩
    rw[uh HQ,numOut_none]
    go_wp2
    go_ret2
    exact⟨rfl,hb⟩
   | some v =>
    have HQ:=hde hq
    have hvb:0≤v∧v≤1000000000:=by
     unfold Sp.digits at hq
     split at hq
     ·cases hq
     ·exact Sp.dval_bd hq
    clear hq h0
    go_enter Tryz.func163,Tryz.ntmps163
    go_wp2_with fail
    refine(uh HC).mono ?_
    rintro e w1 ⟨rfl,hw⟩
    obtain rfl:=hw.symm
    go_wp2_with fail
    refine(readSize_any d _ hds).mono ?_
    rintro e w2 ⟨rfl,hb⟩
    rw[uh HQ,numOut_some]
    go_wp2
    go_ret2
    exact⟨rfl,hb⟩
 ·obtain⟨e1,e2⟩:=pre_no hm
  have hse:(⟨s.data.toList.toArray⟩:ByteArray)=s:=rfl
  rw[show ((⟨#[45]⟩:ByteArray).data.toList)=[45] from rfl,e1,e2,hse] at hcut
  have HC:=hde hcut
  clear hcut e1 e2 hse
  by_cases h0:s.data.toList=[48]
  ·have h0':=toList_is h0
   rw[show Sp.number s.data.toList=some 0 from if_pos h0]
   go_enter Tryz.func163,Tryz.ntmps163
   go_wp2_with fail
   refine(uh HC).mono ?_
   rintro e w1 ⟨rfl,hw⟩
   obtain rfl:=hw.symm
   go_wp2
   go_ret2
   exact⟨rfl,Below.refl _ _⟩
  ·have h0':=toList_ne h0
   have en:Sp.number s.data.toList=Sp.digits s.data.toList:=by unfold Sp.number;rw[if_neg h0,if_neg hm]
   rw[en]
   clear en hm
   cases hq:Sp.digits s.data.toList with
   | none =>
    have HQ:=hde hq
    clear hq h0
    go_enter Tryz.func163,Tryz.ntmps163
    go_wp2_with fail
    refine(uh HC).mono ?_
    rintro e w1 ⟨rfl,hw⟩
    obtain rfl:=hw.symm
    go_wp2_with fail
    refine(readSize_any s _ hs).mono ?_
    rintro e w2 ⟨rfl,hb⟩
    rw[uh HQ,numOut_none]
    go_wp2
    go_ret2
    exact⟨rfl,hb⟩
   | some v =>
    have HQ:=hde hq
    clear hq h0
    go_enter Tryz.func163,Tryz.ntmps163
    go_wp2_with fail
    refine(uh HC).mono ?_
    rintro e w1 ⟨rfl,hw⟩
    obtain rfl:=hw.symm
    go_wp2_with fail
    refine(readSize_any s _ hs).mono ?_
    rintro e w2 ⟨rfl,hb⟩
    rw[uh HQ,numOut_some]
    go_wp2
    go_ret2
    exact⟨rfl,hb⟩
theorem Tryz.info_string:(Tryz.prog.info? 9).map (fun i=>(i.zero,i.size,i.bytes))=some (some (.string ByteArray.empty),1,16):=by kernel_rfl
theorem Tryz.info_line:(Tryz.prog.info? 224).map (fun i=>(i.zero,i.size,i.bytes))=some (some (.agg #[.bool false,.int .i64 0,.int .i64 0,.int .i64 0]),4,32):=by kernel_rfl
theorem Tryz.info_int:(Tryz.prog.info? 3).map (fun i=>(i.zero,i.size,i.bytes))=some (some (.int .i64 0),1,8):=by kernel_rfl
def LinesAt (w:World) (p:Option Addr) (L:List Sp.Ln):Prop :=
 ∀ k (h:k < L.length),∃ g,p=some ⟨g,0,none⟩∧w.cell? ⟨g,k * 4,none⟩=some (.bool L[k].edge)∧w.cell? ⟨g,k * 4+1,none⟩=some (.int .i64 L[k].frm)∧w.cell? ⟨g,k * 4+2,none⟩=some (.int .i64 L[k].to)∧w.cell? ⟨g,k * 4+3,none⟩=some (.int .i64 L[k].n)
theorem below_drewN (w:World) (n:Nat):Below w.heap.size w (w.drewN n):=by
 induction n with
 | zero=>exact Below.refl _ _
 | succ n ih=>exact ih.drew
theorem osl {w:World} {B e size n:Nat} {v:Value} {xs:List Value} (h:w.ownsRow B e size v n xs) :
  ∃ p cap,v = .slice p n cap∧∀ j,j < n * size→∃ g,p=some ⟨g,0,none⟩∧B≤g∧g < w.heap.size∧w.cell? ⟨g,j,none⟩=xs[j]?:=by
 have h0:=h
 obtain⟨h1,h2⟩:=h
 rcases h2 with ⟨rfl,rfl⟩ | ⟨g,cap,cur,rfl,hB,hg,r⟩
 ·exact⟨none,0,rfl,fun j hj=>by omega⟩
 ·exact⟨some ⟨g,0,none⟩,cap,rfl,fun j hj=>⟨g,rfl,hB,(Array.getElem?_eq_some_iff.1 hg).1,h0.cellAt j hj⟩⟩
def LinesIn (w:World) (G:Nat) (p:Option Addr) (L:List Sp.Ln):Prop :=
 ∀ k (h:k < L.length),∃ g,p=some ⟨g,0,none⟩∧g < G∧w.cell? ⟨g,k * 4,none⟩=some (.bool L[k].edge)∧w.cell? ⟨g,k * 4+1,none⟩=some (.int .i64 L[k].frm)∧w.cell? ⟨g,k * 4+2,none⟩=some (.int .i64 L[k].to)∧w.cell? ⟨g,k * 4+3,none⟩=some (.int .i64 L[k].n)
theorem LinesIn.at {w:World} {G:Nat} {p:Option Addr} {L:List Sp.Ln} (h:LinesIn w G p L):LinesAt w p L:=fun k hk=>by
 obtain⟨g,a,_,b⟩:=h k hk
 exact⟨g,a,b⟩
theorem LinesIn.below {w w':World} {G:Nat} {p:Option Addr} {L:List Sp.Ln} (h:LinesIn w G p L) (hb:Below G w w'):LinesIn w' G p L:=fun k hk=>by
 obtain⟨g,a,hg,b0,b1,b2,b3⟩:=h k hk
 refine⟨g,a,hg,?_,?_,?_,?_⟩
 ·rw[hb.cell (p:=⟨g,k * 4,none⟩) hg];exact b0
 ·rw[hb.cell (p:=⟨g,k * 4+1,none⟩) hg];exact b1
 ·rw[hb.cell (p:=⟨g,k * 4+2,none⟩) hg];exact b2
 ·rw[hb.cell (p:=⟨g,k * 4+3,none⟩) hg];exact b3
def edCells (E:List Sp.Ed):List Value:=E.flatMap fun e=>[Value.int .i64 (e.frm:Int),.int .i64 (e.to:Int),.int .i64 e.n]
structure G3 (w:World) (G:Nat) (v u x:Value) (N V:List Int) (E:List Sp.Ed):Prop where
 lt:G < w.heap.size
 c0:w.cell? ⟨G,0,none⟩=some v
 c1:w.cell? ⟨G,1,none⟩=some u
 c2:w.cell? ⟨G,2,none⟩=some x
 fz:∀ j,w.frozen? ⟨G,j,none⟩=false
 r0:w.ownsRow (G+1) 21 1 v N.length (N.map (Value.int .i32))
 r1:w.ownsRow (G+1) 2 1 u V.length (V.map (Value.int .i64))
 r2:w.ownsRow (G+1) 67 3 x E.length (edCells E)
theorem G3.alloc {w:World} {G:Nat} {v u x:Value} {N V:List Int} {E:List Sp.Ed} (h:G3 w G v u x N V E) (o:Obj):G3 (w.alloc o) G v u x N V E:=by
 have hl:=h.lt
 refine⟨by simp;omega,?_,?_,?_,?_,h.r0.alloc o,h.r1.alloc o,h.r2.alloc o⟩
 ·rw[World.cell?_alloc_past _ _ _ (by simpa using hl)];exact h.c0
 ·rw[World.cell?_alloc_past _ _ _ (by simpa using hl)];exact h.c1
 ·rw[World.cell?_alloc_past _ _ _ (by simpa using hl)];exact h.c2
 ·intro j;rw[World.frozen?_alloc_past _ _ _ (by simpa using hl)];exact h.fz j
theorem G3.drew {w:World} {G:Nat} {v u x:Value} {N V:List Int} {E:List Sp.Ed} (h:G3 w G v u x N V E):G3 w.drew G v u x N V E :=
 ⟨h.lt,h.c0,h.c1,h.c2,h.fz,h.r0,h.r1,h.r2⟩
theorem below_app {w0 w w1:World} {G e size n:Nat} {v:Value} {xs:List Value} (hb:Below G w0 w) (hl:G < w.heap.size) (ho:w.ownsRow (G+1) e size v n xs) (hg:w.grownBy w1 v.ownBlock) (j:Nat) (u:Value):Below G w0 (w1.setCell ⟨G,j,none⟩ u):=
 (hb.grown hg (by omega) (fun k hk=>by have:=(ho.lt k hk).1;omega)).setCell nlr _
theorem G3.new {w:World}:G3 (w.alloc (.cells #[.slice none 0 0,.slice none 0 0,.slice none 0 0] 79)) w.heap.size (.slice none 0 0) (.slice none 0 0) (.slice none 0 0) [] [] []:=by
 refine⟨by simp,by simp,by simp,by simp,by simp,World.ownsRow_nil _ _ _ _,World.ownsRow_nil _ _ _ _,World.ownsRow_nil _ _ _ _⟩
end Go.Proofs.YteflnddphpjahaaGreatDoor
