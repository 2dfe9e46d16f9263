import GoSem.Core.Utf8
import Derived.Lib.DecodeN
import Derived.Lib.MapLaws
import Derived.Laws.Cover4
import Derived.Laws.Runes
import Derived.Laws.IdiomStrings
set_option linter.unusedVariables false
set_option linter.unusedSimpArgs false
set_option maxRecDepth 100000
set_option maxHeartbeats 16000000
namespace Go.Proofs.YteflnddphpjahaaGreatDoor.Sp
open Go
def bt (s:ByteArray) (i:Nat):Nat:=(s.get! i).toNat
theorem bt_lt (s:ByteArray) (i:Nat):bt s i < 256:=(s.get! i).toNat_lt
theorem bt_of (s:ByteArray) (i:Nat) (h:i < s.size):(s[i]'h).toNat=bt s i:=by
 unfold bt
 cases s with | mk d =>
 show _=(d[i]!).toNat
 rw[getElem!_pos d i h];rfl
def moreB (s:ByteArray) (i:Nat):Bool:=decide (i < s.size∧128≤bt s i∧bt s i < 192)
def moreV (s:ByteArray) (i:Nat):Int:=if moreB s i=true then (bt s i:Int) - 128 else 0
theorem moreB_true {s:ByteArray} {i:Nat} (h:moreB s i=true):i < s.size∧128≤bt s i∧bt s i < 192:=by
 simpa [moreB] using h
theorem moreB_false {s:ByteArray} {i:Nat} (h:moreB s i=false):¬ (i < s.size∧128≤bt s i∧bt s i < 192):=by
 simpa [moreB] using h
theorem moreV_true {s:ByteArray} {i:Nat} (h:moreB s i=true):moreV s i=(bt s i:Int) - 128:=if_pos h
theorem moreV_false {s:ByteArray} {i:Nat} (h:moreB s i=false):moreV s i=0:=by unfold moreV;rw[h];rfl
def refRune (s:ByteArray) (i:Nat):Int × Int :=
 if Utf8.decode s i=(65533,1) then (0,0) else (((Utf8.decode s i).1:Int),((Utf8.decode s i).2:Int))
def acc (s:ByteArray) (i:Nat) (r0:Int):Nat→Int
 | 0=>r0
 | k+1=>64 * acc s i r0 k+moreV s (i+(k+1))
theorem moreV_bd (s:ByteArray) (i:Nat):0≤moreV s i∧moreV s i≤63:=by
 cases h:moreB s i with
 | true=>have:=moreB_true h;rw[moreV_true h];omega
 | false=>rw[moreV_false h];omega
theorem acc_bd (s:ByteArray) (i:Nat) (r0:Int) (h0:0≤r0) (h1:r0≤31) (k:Nat) (hk:k≤3):0≤acc s i r0 k∧acc s i r0 k≤8388607:=by
 have b1:=moreV_bd s (i+1)
 have b2:=moreV_bd s (i+2)
 have b3:=moreV_bd s (i+3)
 match k,hk with
 | 0,_=>simp only[acc];omega
 | 1,_=>simp only[acc,Nat.zero_add,Nat.reduceAdd];omega
 | 2,_=>simp only[acc,Nat.zero_add,Nat.reduceAdd];omega
 | 3,_=>simp only[acc,Nat.zero_add,Nat.reduceAdd];omega
theorem dec (s:ByteArray) (i:Nat):Utf8.decode s i=Lib.decodeN (s.size - i) (bt s i) (bt s (i+1)) (bt s (i+2)) (bt s (i+3)):=Lib.decode_at s i
theorem ref_ascii {s:ByteArray} {i:Nat} (h:bt s i < 128):refRune s i=((bt s i:Int),1):=by
 unfold refRune;rw[dec];simp only[Lib.decodeN,h,if_true]
 rw[if_neg];· rfl
 intro e;have:=congrArg Prod.fst e;simp only at this;omega
theorem ref_none {s:ByteArray} {i:Nat} (h:(128≤bt s i∧bt s i < 192)∨248≤bt s i):refRune s i=(0,0):=by
 have hb:=bt_lt s i
 unfold refRune;rw[dec,if_pos]
 unfold Lib.decodeN
 rw[if_neg (by omega),if_neg (by omega),if_neg (by omega),if_neg (by omega)]
theorem ref_bad2 {s:ByteArray} {i:Nat} (hi:i < s.size) (h:192≤bt s i) (h':bt s i < 224) (hm:moreB s (i+1)=false):refRune s i=(0,0):=by
 have hm:=moreB_false hm
 have hb:=bt_lt s (i+1)
 unfold refRune;rw[dec,if_pos]
 unfold Lib.decodeN
 rw[if_neg (by omega),if_neg (by omega),if_neg (by omega),if_neg (by omega)]
theorem ref_bad3 {s:ByteArray} {i:Nat} (hi:i < s.size) (h:224≤bt s i) (h':bt s i < 240) (hm:moreB s (i+1)=false∨moreB s (i+2)=false):refRune s i=(0,0):=by
 have hb:=bt_lt s (i+1)
 have hb2:=bt_lt s (i+2)
 unfold refRune;rw[dec,if_pos]
 unfold Lib.decodeN
 rcases hm with hm | hm <;> have hm:=moreB_false hm <;>
 rw[if_neg (by omega),if_neg (by omega),if_neg (by omega),if_neg (by omega)]
theorem ref_bad4 {s:ByteArray} {i:Nat} (hi:i < s.size) (h:240≤bt s i) (h':bt s i < 248) (hm:moreB s (i+1)=false∨moreB s (i+2)=false∨moreB s (i+3)=false):refRune s i=(0,0):=by
 have hb:=bt_lt s (i+1)
 have hb2:=bt_lt s (i+2)
 have hb3:=bt_lt s (i+3)
 unfold refRune;rw[dec,if_pos]
 unfold Lib.decodeN
 rcases hm with hm | hm | hm <;> have hm:=moreB_false hm <;>
 rw[if_neg (by omega),if_neg (by omega),if_neg (by omega),if_neg (by omega)]
theorem pair_ne {a:Nat} {n:Nat} (h:n≠1):¬ ((a,n)=((65533:Nat),(1:Nat))):=fun e=>h (congrArg Prod.snd e)
theorem ref_2 {s:ByteArray} {i:Nat} (hi:i < s.size) (h:192≤bt s i) (h':bt s i < 224) (h1:moreB s (i+1)=true) :
  refRune s i=if acc s i ((bt s i:Int) - 192) 1 < 128∨acc s i ((bt s i:Int) - 192) 1 > 1114111∨(55296≤acc s i ((bt s i:Int) - 192) 1∧acc s i ((bt s i:Int) - 192) 1 < 57344) then (0,0) else (acc s i ((bt s i:Int) - 192) 1,2):=by
 have g1:=moreB_true h1
 have e:acc s i ((bt s i:Int) - 192) 1=((bt s i % 32 * 64+bt s (i+1) % 64:Nat):Int):=by
  simp only[acc,moreV_true h1];omega
 rw[e]
 have hd:=dec s i
 unfold Lib.decodeN at hd
 rw[if_neg (by omega),if_pos (by omega)] at hd
 unfold refRune
 by_cases hc:bt s i % 32 * 64+bt s (i+1) % 64 ≥ 128
 ·rw[if_pos hc] at hd
  rw[hd,if_neg (pair_ne (by omega)),if_neg (by omega)];rfl
 ·rw[if_neg hc] at hd
  rw[hd,if_pos rfl,if_pos (by omega)]
theorem ref_3 {s:ByteArray} {i:Nat} (hi:i < s.size) (h:224≤bt s i) (h':bt s i < 240) (h1:moreB s (i+1)=true) (h2:moreB s (i+2)=true) :
  refRune s i=if acc s i ((bt s i:Int) - 224) 2 < 2048∨acc s i ((bt s i:Int) - 224) 2 > 1114111∨(55296≤acc s i ((bt s i:Int) - 224) 2∧acc s i ((bt s i:Int) - 224) 2 < 57344) then (0,0) else (acc s i ((bt s i:Int) - 224) 2,3):=by
 have g1:=moreB_true h1
 have g2:=moreB_true h2
 have e:acc s i ((bt s i:Int) - 224) 2=((bt s i % 16 * 4096+bt s (i+1) % 64 * 64+bt s (i+2) % 64:Nat):Int):=by
  simp only[acc,moreV_true h1,moreV_true h2];omega
 rw[e]
 have hd:=dec s i
 unfold Lib.decodeN at hd
 rw[if_neg (by omega),if_neg (by omega),if_pos (by omega)] at hd
 unfold refRune
 by_cases hc:bt s i % 16 * 4096+bt s (i+1) % 64 * 64+bt s (i+2) % 64 ≥ 2048∧(bt s i % 16 * 4096+bt s (i+1) % 64 * 64+bt s (i+2) % 64 < 55296∨(57344≤bt s i % 16 * 4096+bt s (i+1) % 64 * 64+bt s (i+2) % 64∧bt s i % 16 * 4096+bt s (i+1) % 64 * 64+bt s (i+2) % 64≤1114111))
 ·rw[if_pos hc] at hd
  rw[hd,if_neg (pair_ne (by omega)),if_neg (by omega)];rfl
 ·rw[if_neg hc] at hd
  rw[hd,if_pos rfl,if_pos (by omega)]
theorem ref_4 {s:ByteArray} {i:Nat} (hi:i < s.size) (h:240≤bt s i) (h':bt s i < 248) (h1:moreB s (i+1)=true) (h2:moreB s (i+2)=true) (h3:moreB s (i+3)=true) :
  refRune s i=if acc s i ((bt s i:Int) - 240) 3 < 65536∨acc s i ((bt s i:Int) - 240) 3 > 1114111∨(55296≤acc s i ((bt s i:Int) - 240) 3∧acc s i ((bt s i:Int) - 240) 3 < 57344) then (0,0) else (acc s i ((bt s i:Int) - 240) 3,4):=by
 have g1:=moreB_true h1
 have g2:=moreB_true h2
 have g3:=moreB_true h3
 have e:acc s i ((bt s i:Int) - 240) 3=((bt s i % 8 * 262144+bt s (i+1) % 64 * 4096+bt s (i+2) % 64 * 64+bt s (i+3) % 64:Nat):Int):=by
  simp only[acc,moreV_true h1,moreV_true h2,moreV_true h3];omega
 rw[e]
 have hd:=dec s i
 unfold Lib.decodeN at hd
 rw[if_neg (by omega),if_neg (by omega),if_neg (by omega),if_pos (by omega)] at hd
 unfold refRune
 by_cases hc:bt s i % 8 * 262144+bt s (i+1) % 64 * 4096+bt s (i+2) % 64 * 64+bt s (i+3) % 64 ≥ 65536∧(bt s i % 8 * 262144+bt s (i+1) % 64 * 4096+bt s (i+2) % 64 * 64+bt s (i+3) % 64 < 55296∨(57344≤bt s i % 8 * 262144+bt s (i+1) % 64 * 4096+bt s (i+2) % 64 * 64+bt s (i+3) % 64∧bt s i % 8 * 262144+bt s (i+1) % 64 * 4096+bt s (i+2) % 64 * 64+bt s (i+3) % 64≤1114111))
 ·rw[if_pos hc] at hd
  rw[hd,if_neg (pair_ne (by omega)),if_neg (by omega)];rfl
 ·rw[if_neg hc] at hd
  rw[hd,if_pos rfl,if_pos (by omega)]
theorem take_snoc (s:ByteArray) (k:Nat) (h:k < s.size):s.data.toList.take (k+1)=s.data.toList.take k++[s[k]]:=by
 rw[List.take_succ_eq_append_getElem (by simpa using h)];rfl
theorem take_all (s:ByteArray) (k:Nat) (h:s.size≤k):s.data.toList.take k=s.data.toList:=List.take_of_length_le (by simpa using h)
def dstep (o:Option Int) (c:UInt8):Option Int :=
 match o with
 | none=>none
 | some n=>if (c.toNat:Int) < 48∨57 < (c.toNat:Int)∨1000000000 < 10 * n+((c.toNat:Int) - 48) then none else some (10 * n+((c.toNat:Int) - 48))
def dval (l:List UInt8):Option Int:=l.foldl dstep (some 0)
theorem dval_snoc (l:List UInt8) (c:UInt8):dval (l++[c])=dstep (dval l) c:=by simp[dval,List.foldl_append]
theorem foldl_none (l:List UInt8):l.foldl dstep none=none:=by
 induction l with
 | nil=>rfl
 | cons c l ih=>exact ih
theorem dval_app_none {l:List UInt8} (r:List UInt8) (h:dval l=none):dval (l++r)=none:=by
 simp only[dval,List.foldl_append] at h ⊢;rw[h];exact foldl_none r
theorem dval_take_none {s:ByteArray} {k:Nat} (h:dval (s.data.toList.take k)=none):dval s.data.toList=none:=by
 have:=dval_app_none (s.data.toList.drop k) h
 rwa [List.take_append_drop] at this
theorem dval_bd {l:List UInt8} {n:Int} (h:dval l=some n):0≤n∧n≤1000000000:=by
 rcases List.eq_nil_or_concat l with rfl | ⟨l',c,rfl⟩
 ·simp[dval] at h;omega
 ·rw[List.concat_eq_append,dval_snoc] at h
  have aux:∀ o:Option Int,dstep o c=some n→(∀ m,o=some m→0≤m)→0≤n∧n≤1000000000:=by
   intro o ho hm
   cases o with
   | none=>simp[dstep] at ho
   | some m =>
    have:=hm m rfl
    simp only[dstep] at ho
    split at ho
    ·cases ho
    ·injection ho with ho;subst ho
     rename_i hc
     omega
  refine aux _ h ?_
  intro m hm
  have pos:∀ (l:List UInt8) (a:Int),0≤a→∀ m,l.foldl dstep (some a)=some m→0≤m:=by
   intro l
   induction l with
   | nil=>intro a ha m hm;simp at hm;omega
   | cons c l ih =>
    intro a ha m hm
    simp only[List.foldl_cons,dstep] at hm
    split at hm
    ·rw[foldl_none] at hm;cases hm
    ·exact ih _ (by omega) m hm
  exact pos l' 0 (by omega) m hm
def digits (l:List UInt8):Option Int:=if l=[]∨l.head? = some 48 then none else dval l
def number (l:List UInt8):Option Int :=
 if l=[48] then some 0
 else if l.head? = some 45 then (digits l.tail).map (fun n=>-n)
 else digits l
theorem number_bd {l:List UInt8} {n:Int} (h:number l=some n) : -1000000000≤n∧n≤1000000000:=by
 have hd:∀ (l:List UInt8) (m:Int),digits l=some m→0≤m∧m≤1000000000:=by
  intro l m hm
  unfold digits at hm
  split at hm
  ·cases hm
  ·exact dval_bd hm
 unfold number at h
 split at h
 ·injection h with h;omega
 ·split at h
  ·cases hq:digits l.tail with
   | none=>rw[hq] at h;cases h
   | some m=>rw[hq] at h;simp at h;have:=hd _ _ hq;omega
  ·have:=hd _ _ h;omega
def badFrom (s:ByteArray):Nat→Nat→Option Nat
 | 0,_=>none
 | f+1,i=>if i < s.size then (if Utf8.decode s i=(65533,1) then some i else badFrom s f (i+(Utf8.decode s i).2)) else none
def bad (s:ByteArray):Option Nat:=badFrom s s.size 0
def badInt:Option Nat→Int
 | none=>-1
 | some i=>i
theorem dec_size {s:ByteArray} {i:Nat} (hi:i < s.size):1≤(Utf8.decode s i).2∧(Utf8.decode s i).2≤4∧i+(Utf8.decode s i).2≤s.size:=by
 rw[dec];unfold Lib.decodeN
 repeat' split
 all_goals (simp only;omega)
theorem ref_of_bad {s:ByteArray} {i:Nat} (h:Utf8.decode s i=(65533,1)):refRune s i=(0,0):=if_pos h
theorem ref_of_good {s:ByteArray} {i:Nat} (h:¬ Utf8.decode s i=(65533,1)):refRune s i=(((Utf8.decode s i).1:Int),((Utf8.decode s i).2:Int)):=if_neg h
def cuts (s:ByteArray) (c:Nat):Nat→Nat × List ByteArray
 | 0=>(0,[])
 | k+1=>if k=s.size∨bt s k=c then (k+1,(cuts s c k).2++[s.extract (cuts s c k).1 k]) else cuts s c k
def split (s:ByteArray) (c:Nat):List ByteArray:=(cuts s c (s.size+1)).2
theorem cuts_yes {s:ByteArray} {c k:Nat} (h:k=s.size∨bt s k=c):cuts s c (k+1)=(k+1,(cuts s c k).2++[s.extract (cuts s c k).1 k]):=if_pos h
theorem cuts_no {s:ByteArray} {c k:Nat} (h:¬ (k=s.size∨bt s k=c)):cuts s c (k+1)=cuts s c k:=if_neg h
theorem cuts_bd (s:ByteArray) (c:Nat) (k:Nat):(cuts s c k).1≤k∧(cuts s c k).2.length≤k:=by
 induction k with
 | zero=>simp[cuts]
 | succ k ih =>
  by_cases h:k=s.size∨bt s k=c
  ·rw[cuts_yes h];simp;omega
  ·rw[cuts_no h];omega
def nm (s:ByteArray) (i:Nat):Option (Int × Nat):=
 if i < s.size∧bt s i≠32∧bt s i≠62 then some ((refRune s i).1,i+(refRune s i).2.toNat) else none
theorem nm_bd {s:ByteArray} {i:Nat} {r:Int} {j:Nat} (h:nm s i=some (r,j)):i < s.size∧i≤j∧j≤s.size:=by
 unfold nm at h
 split at h
 ·rename_i hc
  injection h with h
  have h2:=congrArg Prod.snd h
  simp only at h2
  have hd:=dec_size hc.1
  have:0≤(refRune s i).2∧i+(refRune s i).2.toNat≤s.size:=by
   unfold refRune
   split <;> simp only <;> omega
  omega
 ·cases h
structure Ln where
 edge:Bool
 frm:Int
 to:Int
 n:Int
def fin (s:ByteArray) (edge:Bool) (a b:Int) (j:Nat):Option Ln :=
 if j < s.size∧bt s j=32 then (number (s.extract (j+1) s.size).data.toList).map (fun n=>⟨edge,a,b,n⟩) else none
def lineOf (s:ByteArray):Option Ln :=
 match nm s 0 with
 | none=>none
 | some (a,j) =>
  if j < s.size∧bt s j=62 then
   match nm s (j+1) with
   | none=>none
   | some (b,k)=>fin s true a b k
  else fin s false a 0 j
def rdFrom:List ByteArray→Nat→List Ln→List Nat→Except (Int × Int) (List Ln × List Nat)
 | [],_,L,A=>.ok (L,A)
 | x :: r,k,L,A=>if x.size=0 then rdFrom r (k+1) L A else
  match lineOf x with
  | none=>.error (3,(k:Int))
  | some l=>rdFrom r (k+1) (L++[l]) (A++[k])
def readSpec (s:ByteArray):Except (Int × Int) (List Ln × List Nat):=
 if 4000 < s.size then .error (1,0) else
 match bad s with
 | some i=>.error (2,(i:Int))
 | none=>rdFrom (split s 10) 0 [] []
theorem rd_end {ls:List ByteArray} {k:Nat} (h:ls.length≤k) (L:List Ln) (A:List Nat):rdFrom (ls.drop k) k L A = .ok (L,A):=by
 rw[List.drop_of_length_le h];rfl
theorem rd_empty {ls:List ByteArray} {k:Nat} (h:k < ls.length) (L:List Ln) (A:List Nat) (he:(ls[k]).size=0):rdFrom (ls.drop k) k L A=rdFrom (ls.drop (k+1)) (k+1) L A:=by
 rw[List.drop_eq_getElem_cons h];simp only[rdFrom,he,if_true]
theorem rd_none {ls:List ByteArray} {k:Nat} (h:k < ls.length) (L:List Ln) (A:List Nat) (he:¬ (ls[k]).size=0) (hl:lineOf ls[k]=none):rdFrom (ls.drop k) k L A = .error (3,(k:Int)):=by
 rw[List.drop_eq_getElem_cons h];simp only[rdFrom,he,if_false,hl]
theorem rd_some {ls:List ByteArray} {k:Nat} (h:k < ls.length) (L:List Ln) (A:List Nat) (he:¬ (ls[k]).size=0) {l:Ln} (hl:lineOf ls[k]=some l):rdFrom (ls.drop k) k L A=rdFrom (ls.drop (k+1)) (k+1) (L++[l]) (A++[k]):=by
 rw[List.drop_eq_getElem_cons h];simp only[rdFrom,he,if_false,hl]
theorem cuts_size (s:ByteArray) (c:Nat) (k:Nat):∀ x ∈ (cuts s c k).2,x.size≤s.size:=by
 induction k with
 | zero=>intro x hx;simp[cuts] at hx
 | succ k ih =>
  by_cases h:k=s.size∨bt s k=c
  ·rw[cuts_yes h]
   intro x hx
   rcases List.mem_append.1 hx with hx | hx
   ·exact ih x hx
   ·rw[List.mem_singleton.1 hx];simp;omega
  ·rw[cuts_no h];exact ih
theorem split_size (s:ByteArray) (c:Nat):∀ x ∈ split s c,x.size≤s.size:=cuts_size s c _
theorem split_len (s:ByteArray) (c:Nat):0 < (split s c).length∧(split s c).length≤s.size+1:=by
 unfold split
 refine⟨?_,(cuts_bd s c _).2⟩
 rw[cuts_yes (Or.inl rfl)];simp
def isV (a:Int) (l:Ln):Bool := !l.edge && l.frm == a
def hasV (L:List Ln) (n:Nat) (a:Int):Bool:=(L.take n).any (isV a)
def isLow (a:Int) (l:Ln):Bool := !l.edge && decide (l.frm < a)
def low (L:List Ln) (a:Int):Nat:=(L.filter (isLow a)).length
def lowTo (L:List Ln) (a:Int) (k:Nat):Nat:=((L.take k).filter (isLow a)).length
theorem take_succ {α : Type} (L:List α) (k:Nat) (h:k < L.length):L.take (k+1)=L.take k++[L[k]]:=List.take_succ_eq_append_getElem h
theorem hasV_zero (L:List Ln) (a:Int):hasV L 0 a=false:=by simp[hasV]
theorem hasV_yes {L:List Ln} {n k:Nat} {a:Int} (h:k < L.length) (hk:k < n) (hv:isV a L[k]=true):hasV L n a=true:=by
 unfold hasV
 rw[List.any_eq_true]
 exact⟨L[k],List.mem_take_iff_getElem.2 ⟨k,by omega,rfl⟩,hv⟩
theorem hasV_next {L:List Ln} {k:Nat} {a:Int} (h:k < L.length) (h0:hasV L k a=false) (hv:isV a L[k]=false):hasV L (k+1) a=false:=by
 unfold hasV at *
 rw[take_succ L k h,List.any_append,h0];simp[hv]
theorem lowTo_zero (L:List Ln) (a:Int):lowTo L a 0=0:=by simp[lowTo]
theorem lowTo_yes {L:List Ln} {k:Nat} {a:Int} (h:k < L.length) (hv:isLow a L[k]=true):lowTo L a (k+1)=lowTo L a k+1:=by
 unfold lowTo;rw[take_succ L k h,List.filter_append];simp[hv]
theorem lowTo_no {L:List Ln} {k:Nat} {a:Int} (h:k < L.length) (hv:isLow a L[k]=false):lowTo L a (k+1)=lowTo L a k:=by
 unfold lowTo;rw[take_succ L k h,List.filter_append];simp[hv]
theorem lowTo_all {L:List Ln} {k:Nat} (a:Int) (h:L.length≤k):lowTo L a k=low L a:=by
 unfold lowTo low;rw[List.take_of_length_le h]
def first (p:Nat→Bool) (n:Nat):Option Nat:=(List.range n).find? p
theorem first_some {p:Nat→Bool} {n k:Nat} (hk:k < n) (h:∀ j,j < k→p j=false) (hp:p k=true):first p n=some k:=by
 unfold first
 rw[List.find?_range_eq_some]
 refine⟨hp,List.mem_range.2 hk,fun j hj=>?_⟩
 simp[h j hj]
theorem first_none {p:Nat→Bool} {n:Nat} (h:∀ j,j < n→p j=false):first p n=none:=by
 unfold first
 rw[List.find?_eq_none]
 intro j hj
 simp[h j (List.mem_range.1 hj)]
def twiceAt (L:List Ln) (i:Nat):Bool:=match L[i]? with
 | none=>false
 | some l=>!l.edge && hasV L i l.frm
def loose (L:List Ln) (i:Nat):Bool:=match L[i]? with
 | none=>false
 | some l=>l.edge && !(hasV L L.length l.frm && hasV L L.length l.to)
def edgesTo (L:List Ln) (k:Nat):Nat:=((L.take k).filter (fun l=>l.edge)).length
def edges (L:List Ln):Nat:=(L.filter (fun l=>l.edge)).length
def wrongSpec (L:List Ln) (A:List Nat):Int × Int :=
 match first (twiceAt L) L.length with
 | some i=>(4,(A.getD i 0:Nat))
 | none=>match first (loose L) L.length with
  | some i=>(5,(A.getD i 0:Nat))
  | none=>if 256 < edges L∨64 < L.length - edges L then (6,0) else (0,0)
theorem twice_yes {L:List Ln} {k:Nat} (h:k < L.length) (he:L[k].edge=false) (hv:hasV L k L[k].frm=true):twiceAt L k=true:=by
 unfold twiceAt;rw[List.getElem?_eq_getElem h];simp[he,hv]
theorem twice_no {L:List Ln} {k:Nat} (h:k < L.length) (hv:L[k].edge=true∨hasV L k L[k].frm=false):twiceAt L k=false:=by
 unfold twiceAt;rw[List.getElem?_eq_getElem h]
 rcases hv with hv | hv <;> simp[hv]
theorem loose_yes {L:List Ln} {k:Nat} (h:k < L.length) (he:L[k].edge=true) (hv:hasV L L.length L[k].frm=false∨hasV L L.length L[k].to=false):loose L k=true:=by
 unfold loose;rw[List.getElem?_eq_getElem h]
 rcases hv with hv | hv <;> simp only[he,hv] <;> simp
theorem loose_no {L:List Ln} {k:Nat} (h:k < L.length) (hv:L[k].edge=false∨(hasV L L.length L[k].frm=true∧hasV L L.length L[k].to=true)):loose L k=false:=by
 unfold loose;rw[List.getElem?_eq_getElem h]
 rcases hv with hv | ⟨h1,h2⟩
 ·simp[hv]
 ·simp only[h1,h2];simp
theorem edgesTo_le (L:List Ln) (k:Nat):edgesTo L k≤k:=Nat.le_trans (List.length_filter_le _ _) (List.length_take_le _ _)
theorem edgesTo_yes {L:List Ln} {k:Nat} (h:k < L.length) (hv:L[k].edge=true):edgesTo L (k+1)=edgesTo L k+1:=by
 unfold edgesTo;rw[take_succ L k h,List.filter_append];simp[hv]
theorem edgesTo_no {L:List Ln} {k:Nat} (h:k < L.length) (hv:L[k].edge=false):edgesTo L (k+1)=edgesTo L k:=by
 unfold edgesTo;rw[take_succ L k h,List.filter_append];simp[hv]
theorem edgesTo_all {L:List Ln} {k:Nat} (h:L.length≤k):edgesTo L k=edges L:=by
 unfold edgesTo edges;rw[List.take_of_length_le h]
def vHit (L:List Ln) (k:Nat) (l:Ln):Bool := !l.edge && low L l.frm == k
def vAt (L:List Ln) (k i:Nat):List Ln:=(L.take i).filter (vHit L k)
def vs (L:List Ln):Nat→List Ln
 | 0=>[]
 | k+1=>vs L k++vAt L k L.length
def eHit (L:List Ln) (a b:Nat) (l:Ln):Bool:=l.edge && (low L l.frm == a && low L l.to == b)
structure Ed where
 frm:Nat
 to:Nat
 n:Int
def eAt (L:List Ln) (a b i:Nat):List Ed:=((L.take i).filter (eHit L a b)).map fun l=>⟨a,b,l.n⟩
def eRow (L:List Ln) (a:Nat):Nat→List Ed
 | 0=>[]
 | b+1=>eRow L a b++eAt L a b L.length
def es (L:List Ln) (n:Nat):Nat→List Ed
 | 0=>[]
 | a+1=>es L n a++eRow L a n
def nv (L:List Ln):Nat:=L.length - edges L
def parseSpec (s:ByteArray):Except (Int × Int) (List Ln):=
 match readSpec s with
 | .error e=>.error e
 | .ok (L,A)=>if (wrongSpec L A).1=0 then .ok L else .error (wrongSpec L A)
theorem vAt_zero (L:List Ln) (k:Nat):vAt L k 0=[]:=by simp[vAt]
theorem vAt_yes {L:List Ln} {k i:Nat} (h:i < L.length) (hv:vHit L k L[i]=true):vAt L k (i+1)=vAt L k i++[L[i]]:=by
 unfold vAt;rw[take_succ L i h,List.filter_append];simp[hv]
theorem vAt_no {L:List Ln} {k i:Nat} (h:i < L.length) (hv:vHit L k L[i]=false):vAt L k (i+1)=vAt L k i:=by
 unfold vAt;rw[take_succ L i h,List.filter_append];simp[hv]
theorem vAt_le (L:List Ln) (k i:Nat):(vAt L k i).length≤L.length:=Nat.le_trans (List.length_filter_le _ _) (List.length_take_le' _ _)
theorem vs_le (L:List Ln) (k:Nat):(vs L k).length≤k * L.length:=by
 induction k with
 | zero=>simp[vs]
 | succ k ih =>
  have:=vAt_le L k L.length
  simp only[vs,List.length_append]
  rw[Nat.succ_mul];omega
theorem eAt_zero (L:List Ln) (a b:Nat):eAt L a b 0=[]:=by simp[eAt]
theorem eAt_yes {L:List Ln} {a b i:Nat} (h:i < L.length) (hv:eHit L a b L[i]=true):eAt L a b (i+1)=eAt L a b i++[⟨a,b,L[i].n⟩]:=by
 unfold eAt;rw[take_succ L i h,List.filter_append];simp[hv]
theorem eAt_no {L:List Ln} {a b i:Nat} (h:i < L.length) (hv:eHit L a b L[i]=false):eAt L a b (i+1)=eAt L a b i:=by
 unfold eAt;rw[take_succ L i h,List.filter_append];simp[hv]
theorem eAt_le (L:List Ln) (a b i:Nat):(eAt L a b i).length≤L.length:=by
 unfold eAt;rw[List.length_map];exact Nat.le_trans (List.length_filter_le _ _) (List.length_take_le' _ _)
theorem eRow_le (L:List Ln) (a b:Nat):(eRow L a b).length≤b * L.length:=by
 induction b with
 | zero=>simp[eRow]
 | succ b ih =>
  have:=eAt_le L a b L.length
  simp only[eRow,List.length_append]
  rw[Nat.succ_mul];omega
theorem es_le (L:List Ln) (n a:Nat):(es L n a).length≤a * (n * L.length):=by
 induction a with
 | zero=>simp[es]
 | succ a ih =>
  have:=eRow_le L a n
  simp only[es,List.length_append]
  rw[Nat.succ_mul];omega
theorem nv_succ_no {L:List Ln} {k:Nat} (h:k < L.length) (he:L[k].edge=true):(k+1) - edgesTo L (k+1)=k - edgesTo L k:=by
 have:=edgesTo_le L k;rw[edgesTo_yes h he];omega
theorem nv_succ_yes {L:List Ln} {k:Nat} (h:k < L.length) (he:L[k].edge=false):(k+1) - edgesTo L (k+1)=(k - edgesTo L k)+1:=by
 have:=edgesTo_le L k;rw[edgesTo_no h he];omega
theorem wrong_ok {L:List Ln} {A:List Nat} (h:(wrongSpec L A).1=0):edges L≤256∧nv L≤64∧(wrongSpec L A)=(0,0):=by
 unfold wrongSpec at h ⊢
 split at h
 ·simp at h
 ·split at h
  ·simp at h
  ·split at h
   ·simp at h
   ·rename_i hc;unfold nv;rw[if_neg hc];exact⟨by omega,by omega,rfl⟩
theorem dec_bd (s:ByteArray) (i:Nat):(Utf8.decode s i).1≤1114111:=by
 have h0:=bt_lt s i
 have h1:=bt_lt s (i+1)
 have h2:=bt_lt s (i+2)
 rw[dec];unfold Lib.decodeN
 repeat' split
 all_goals (simp only;omega)
theorem ref_fst (s:ByteArray) (i:Nat):0≤(refRune s i).1∧(refRune s i).1≤1114111:=by
 have:=dec_bd s i
 unfold refRune;split <;> simp only <;> omega
theorem nm_fst {s:ByteArray} {i:Nat} {r:Int} {j:Nat} (h:nm s i=some (r,j)):0≤r∧r≤1114111:=by
 have:=ref_fst s i
 unfold nm at h
 split at h
 ·injection h with h
  have h1:=congrArg Prod.fst h
  simp only at h1;omega
 ·cases h
def okLn (l:Ln):Prop:=(0≤l.frm∧l.frm≤1114111)∧(0≤l.to∧l.to≤1114111)∧(-1000000000≤l.n∧l.n≤1000000000)
theorem fin_ok {s:ByteArray} {e:Bool} {a b:Int} {j:Nat} {l:Ln} (h:fin s e a b j=some l) (ha:0≤a∧a≤1114111) (hb:0≤b∧b≤1114111):okLn l:=by
 unfold fin at h
 split at h
 ·cases hn:number (s.extract (j+1) s.size).data.toList with
  | none=>rw[hn] at h;cases h
  | some v =>
   rw[hn] at h
   have hv:=number_bd hn
   simp only[Option.map_some,Option.some.injEq] at h
   subst h
   exact⟨ha,hb,hv⟩
 ·cases h
theorem line_ok {s:ByteArray} {l:Ln} (h:lineOf s=some l):okLn l:=by
 unfold lineOf at h
 split at h
 ·cases h
 ·rename_i a j h0
  split at h
  ·split at h
   ·cases h
   ·rename_i b k h1
    exact fin_ok h (nm_fst h0) (nm_fst h1)
  ·exact fin_ok h (nm_fst h0) (by omega)
theorem rd_ok (ls:List ByteArray):∀ (k:Nat) (L:List Ln) (A:List Nat) (L':List Ln) (A':List Nat),rdFrom ls k L A = .ok (L',A')→(∀ l ∈ L,okLn l)→A.length=L.length →
  (∀ l ∈ L',okLn l)∧A'.length=L'.length∧L'.length≤L.length+ls.length:=by
 induction ls with
 | nil =>
  intro k L A L' A' h hL hA
  simp only[rdFrom,Except.ok.injEq,Prod.mk.injEq] at h
  obtain⟨rfl,rfl⟩:=h
  exact⟨hL,hA,by simp⟩
 | cons x r ih =>
  intro k L A L' A' h hL hA
  simp only[rdFrom] at h
  split at h
  ·have:=ih _ _ _ _ _ h hL hA
   refine⟨this.1,this.2.1,?_⟩
   have h2:=this.2.2
   simp only[List.length_cons];omega
  ·split at h
   ·cases h
   ·rename_i l hl
    have:=ih _ _ _ _ _ h (by
     intro y hy
     rcases List.mem_append.1 hy with hy | hy
     ·exact hL y hy
     ·rw[List.mem_singleton.1 hy];exact line_ok hl) (by simp[hA])
    refine⟨this.1,this.2.1,?_⟩
    have h2:=this.2.2
    simp only[List.length_append,List.length_cons,List.length_nil] at h2 ⊢;omega
theorem read_ok {s:ByteArray} {L:List Ln} {A:List Nat} (h:readSpec s = .ok (L,A)):(∀ l ∈ L,okLn l)∧A.length=L.length∧L.length≤4001:=by
 unfold readSpec at h
 split at h
 ·cases h
 ·split at h
  ·cases h
  ·have h1:=rd_ok _ _ _ _ _ _ h (by simp) rfl
   have h2:=split_len s 10
   refine⟨h1.1,h1.2.1,?_⟩
   have:=h1.2.2
   simp only[List.length_nil] at this;omega
theorem rd_err (ls:List ByteArray) {a b:Int}:∀ (k:Nat) (L:List Ln) (A:List Nat),rdFrom ls k L A = .error (a,b)→a≠0:=by
 induction ls with
 | nil=>intro k L A h;simp[rdFrom] at h
 | cons x r ih =>
  intro k L A h
  simp only[rdFrom] at h
  split at h
  ·exact ih _ _ _ h
  ·split at h
   ·injection h with h;injection h with h;omega
   ·exact ih _ _ _ h
def bytesAt (s:ByteArray) (i n:Nat):List UInt8:=(s.data.toList.drop i).take n
theorem at_get (s:ByteArray) (i:Nat) (h:i < s.size):s.data.toList[i]'(by simpa using h)=UInt8.ofNat (bt s i):=by
 have:=bt_of s i h
 apply UInt8.toNat_inj.1
 rw[show (s.data.toList[i]'(by simpa using h))=s[i]'h from rfl,this]
 have:=bt_lt s i
 simp;omega
theorem bytesAt_succ (s:ByteArray) (i n:Nat) (h:i < s.size):bytesAt s i (n+1)=UInt8.ofNat (bt s i) :: bytesAt s (i+1) n:=by
 unfold bytesAt
 rw[List.drop_eq_getElem_cons (by simpa using h),List.take_succ_cons,at_get s i h]
theorem bytesAt_zero (s:ByteArray) (i:Nat):bytesAt s i 0=[]:=by simp[bytesAt]
theorem enc_dec {s:ByteArray} {i:Nat} (hi:i < s.size) (hv:¬ Utf8.decode s i=(65533,1)):(Utf8.encode ((Utf8.decode s i).1:Int)).data.toList=bytesAt s i (Utf8.decode s i).2:=by
 have hb0:=bt_lt s i
 have hb1:=bt_lt s (i+1)
 have hb2:=bt_lt s (i+2)
 have hb3:=bt_lt s (i+3)
 rw[dec] at hv ⊢
 have i2:i+1+1=i+2:=by omega
 have i3:i+2+1=i+3:=by omega
 rcases Lib.decodeN_shape (s.size - i) (bt s i) (bt s (i+1)) (bt s (i+2)) (bt s (i+3)) with ⟨c,e⟩ | ⟨c1,c2,c3,cv,e⟩ | ⟨c1,c2,c3,c4,cv,cs,e⟩ | ⟨c1,c2,c3,c4,c5,cv,cw,e⟩ | e
 ·rw[e,bytesAt_succ _ _ _ hi,bytesAt_zero]
  have hval:Utf8.valid ((bt s i:Nat):Int)=true:=by rw[validRune_eq];unfold validRune;exact decide_eq_true (by omega)
  simp only[Utf8.encode,hval,if_true,Int.toNat_natCast,c]
 ·rw[e,bytesAt_succ _ _ _ hi,bytesAt_succ _ _ _ (by omega),bytesAt_zero]
  generalize hc:bt s i % 32 * 64+bt s (i+1) % 64=r at *
  have hval:Utf8.valid ((r:Nat):Int)=true:=by rw[validRune_eq];unfold validRune;exact decide_eq_true (by omega)
  simp only[Utf8.encode,hval,if_true,Int.toNat_natCast]
  rw[if_neg (by omega),if_pos (by omega)]
  simp only
  rw[show (192+r / 64)=bt s i from by omega,show (128+r % 64)=bt s (i+1) from by omega]
 ·rw[e,bytesAt_succ _ _ _ hi,bytesAt_succ _ _ _ (by omega),bytesAt_succ _ _ _ (by omega),bytesAt_zero,i2]
  generalize hc:bt s i % 16 * 4096+bt s (i+1) % 64 * 64+bt s (i+2) % 64=r at *
  have hval:Utf8.valid ((r:Nat):Int)=true:=by rw[validRune_eq];unfold validRune;exact decide_eq_true (by omega)
  simp only[Utf8.encode,hval,if_true,Int.toNat_natCast]
  rw[if_neg (by omega),if_neg (by omega),if_pos (by omega)]
  simp only
  rw[show (224+r / 4096)=bt s i from by omega,show (128+r / 64 % 64)=bt s (i+1) from by omega,show (128+r % 64)=bt s (i+2) from by omega]
 ·rw[e,bytesAt_succ _ _ _ hi,bytesAt_succ _ _ _ (by omega),bytesAt_succ _ _ _ (by omega),i2,bytesAt_succ _ _ _ (by omega),bytesAt_zero,i3]
  generalize hc:bt s i % 8 * 262144+bt s (i+1) % 64 * 4096+bt s (i+2) % 64 * 64+bt s (i+3) % 64=r at *
  have hval:Utf8.valid ((r:Nat):Int)=true:=by rw[validRune_eq];unfold validRune;exact decide_eq_true (by omega)
  simp only[Utf8.encode,hval,if_true,Int.toNat_natCast]
  rw[if_neg (by omega),if_neg (by omega),if_neg (by omega)]
  simp only
  rw[show (240+r / 262144)=bt s i from by omega,show (128+r / 4096 % 64)=bt s (i+1) from by omega,show (128+r / 64 % 64)=bt s (i+2) from by omega,show (128+r % 64)=bt s (i+3) from by omega]
 ·exact absurd e hv
def V (s:ByteArray) (i:Nat):Prop := ∀ f,badFrom s f i=none
theorem bad_fuel (s:ByteArray):∀ (f g i:Nat),s.size - i≤f→badFrom s f i=none→badFrom s g i=none:=by
 intro f
 induction f with
 | zero =>
  intro g i hf _
  cases g with
  | zero=>rfl
  | succ g=>simp only[badFrom];rw[if_neg (by omega)]
 | succ f ih =>
  intro g i hf h
  cases g with
  | zero=>rfl
  | succ g =>
   simp only[badFrom] at h ⊢
   by_cases hi:i < s.size
   ·rw[if_pos hi] at h ⊢
    by_cases hd:Utf8.decode s i=(65533,1)
    ·rw[if_pos hd] at h;cases h
    ·rw[if_neg hd] at h ⊢
     have:=dec_size hi
     exact ih g _ (by omega) h
   ·rw[if_neg hi]
theorem V_of_bad {s:ByteArray} (h:bad s=none):V s 0:=fun f=>bad_fuel s s.size f 0 (by omega) h
theorem V_dec {s:ByteArray} {i:Nat} (h:V s i) (hi:i < s.size):¬ Utf8.decode s i=(65533,1)∧V s (i+(Utf8.decode s i).2):=by
 have h1:=h 1
 simp only[badFrom,if_pos hi] at h1
 have hd:¬ Utf8.decode s i=(65533,1):=fun e=>by rw[if_pos e] at h1;cases h1
 refine⟨hd,fun f=>?_⟩
 have h2:=h (f+1)
 simp only[badFrom,if_pos hi,if_neg hd] at h2
 exact h2
theorem V_end {s:ByteArray} {i:Nat} (hi:s.size≤i):V s i:=fun f=>by
 cases f with
 | zero=>rfl
 | succ f=>simp only[badFrom];rw[if_neg (by omega)]
theorem dec_cont {s:ByteArray} {i j:Nat} (hi:i < s.size) (hj:i < j) (hjw:j < i+(Utf8.decode s i).2):128≤bt s j∧bt s j < 192:=by
 have hb1:=bt_lt s (i+1)
 have hb2:=bt_lt s (i+2)
 have hb3:=bt_lt s (i+3)
 rw[dec] at hjw
 rcases Lib.decodeN_shape (s.size - i) (bt s i) (bt s (i+1)) (bt s (i+2)) (bt s (i+3)) with ⟨c,e⟩ | ⟨c1,c2,c3,cv,e⟩ | ⟨c1,c2,c3,c4,cv,cs,e⟩ | ⟨c1,c2,c3,c4,c5,cv,cw,e⟩ | e
 ·rw[e] at hjw;simp only at hjw;omega
 ·rw[e] at hjw;simp only at hjw
  obtain rfl:j=i+1:=by omega
  omega
 ·rw[e] at hjw;simp only at hjw
  obtain rfl | rfl:j=i+1∨j=i+2:=by omega
  ·omega
  ·omega
 ·rw[e] at hjw;simp only at hjw
  obtain rfl | rfl | rfl:j=i+1∨j=i+2∨j=i+3:=by omega
  ·omega
  ·omega
  ·omega
 ·rw[e] at hjw;simp only at hjw;omega
theorem V_at {s:ByteArray}:∀ (n i j:Nat),j - i≤n→V s i→i≤j→j < s.size→bt s j < 128→V s j:=by
 intro n
 induction n with
 | zero=>intro i j hn h hij _ _;obtain rfl:i=j:=(by omega);exact h
 | succ n ih =>
  intro i j hn h hij hj hb
  by_cases e:i=j
  ·rw[← e];exact h
  ·have hi:i < s.size:=by omega
   obtain⟨_,h2⟩:=V_dec h hi
   have hsz:=dec_size hi
   refine ih _ j (by omega) h2 ?_ hj hb
   apply Decidable.byContradiction
   intro hlt
   have:=dec_cont hi (j:=j) (by omega) (by omega)
   omega
def rl (s:ByteArray):Nat→Nat→List Int
 | 0,_=>[]
 | f+1,i=>if i < s.size then ((Utf8.decode s i).1:Int) :: rl s f (i+(Utf8.decode s i).2) else []
def rs (s:ByteArray) (i:Nat):List Int:=rl s (s.size - i) i
theorem rl_fuel (s:ByteArray):∀ (f g i:Nat),s.size - i≤f→s.size - i≤g→rl s f i=rl s g i:=by
 intro f
 induction f with
 | zero =>
  intro g i hf hg
  cases g with
  | zero=>rfl
  | succ g=>simp only[rl];rw[if_neg (by omega)]
 | succ f ih =>
  intro g i hf hg
  by_cases hi:i < s.size
  ·cases g with
   | zero=>omega
   | succ g =>
    have:=dec_size hi
    simp only[rl,if_pos hi]
    rw[ih g _ (by omega) (by omega)]
  ·cases g with
   | zero=>simp only[rl];rw[if_neg hi]
   | succ g=>simp only[rl];rw[if_neg hi,if_neg hi]
theorem rs_nil {s:ByteArray} {i:Nat} (h:s.size≤i):rs s i=[]:=by
 unfold rs;rw[show s.size - i=0 from by omega];rfl
theorem rs_cons {s:ByteArray} {i:Nat} (h:i < s.size):rs s i=((Utf8.decode s i).1:Int) :: rs s (i+(Utf8.decode s i).2):=by
 unfold rs
 have:=dec_size h
 rw[rl_fuel s (s.size - i) (s.size - i+1) i (by omega) (by omega)]
 simp only[rl,if_pos h]
 rw[rl_fuel s _ (s.size - (i+(Utf8.decode s i).2)) _ (by omega) (by omega)]
theorem runesFrom_eq (s:ByteArray):∀ (f i:Nat) (acc:Array Value),Conv.runesFrom s f i acc=acc++((rl s f i).map (Value.int .i32)).toArray:=by
 intro f
 induction f with
 | zero=>intro i acc;simp[Conv.runesFrom,rl]
 | succ f ih =>
  intro i acc
  simp only[Conv.runesFrom,rl]
  by_cases h:i < s.size
  ·rw[if_pos h,if_pos h,ih]
   apply Array.ext'
   simp
  ·rw[if_neg h,if_neg h];simp
theorem runes_eq (s:ByteArray):Conv.runesFrom s s.size 0 #[]=((rs s 0).map (Value.int .i32)).toArray:=by
 rw[runesFrom_eq];simp[rs]
theorem rs_len (s:ByteArray):∀ (n i:Nat),s.size - i≤n→(rs s i).length≤s.size - i:=by
 intro n
 induction n with
 | zero=>intro i h;rw[rs_nil (by omega)];simp
 | succ n ih =>
  intro i h
  by_cases hi:i < s.size
  ·have:=dec_size hi
   rw[rs_cons hi]
   have:=ih (i+(Utf8.decode s i).2) (by omega)
   simp only[List.length_cons];omega
  ·rw[rs_nil (by omega)];simp
theorem rs_bd (s:ByteArray):∀ (n i:Nat),s.size - i≤n→∀ r ∈ rs s i,0≤r∧r≤1114111:=by
 intro n
 induction n with
 | zero=>intro i h r hr;rw[rs_nil (by omega)] at hr;cases hr
 | succ n ih =>
  intro i h r hr
  by_cases hi:i < s.size
  ·have:=dec_size hi
   have hb:=dec_bd s i
   rw[rs_cons hi] at hr
   rcases List.mem_cons.1 hr with rfl | hr
   ·omega
   ·exact ih _ (by omega) r hr
  ·rw[rs_nil (by omega)] at hr;cases hr
theorem foldl_enc (ns:List Int):∀ a:ByteArray,(ns.foldl (fun r n=>r++Utf8.encode n) a).data.toList=a.data.toList++(ns.foldl (fun r n=>r++Utf8.encode n) ByteArray.empty).data.toList:=by
 induction ns with
 | nil=>intro a;simp
 | cons n ns ih =>
  intro a
  simp only[List.foldl_cons]
  rw[ih (a++Utf8.encode n),ih (ByteArray.empty++Utf8.encode n)]
  simp[ByteArray.data_append]
theorem bytes_cons (n:Int) (ns:List Int):(runesBytes (n :: ns)).data.toList=(Utf8.encode n).data.toList++(runesBytes ns).data.toList:=by
 unfold runesBytes
 simp only[List.foldl_cons]
 rw[foldl_enc ns (ByteArray.empty++Utf8.encode n)]
 simp[ByteArray.data_append]
theorem bytes_rs {s:ByteArray}:∀ (n i:Nat),s.size - i≤n→V s i→(runesBytes (rs s i)).data.toList=s.data.toList.drop i:=by
 intro n
 induction n with
 | zero =>
  intro i h _
  rw[rs_nil (by omega),List.drop_of_length_le (by simp;have:s.data.size=s.size:=rfl;omega)];rfl
 | succ n ih =>
  intro i h hV
  by_cases hi:i < s.size
  ·obtain⟨hd,hV'⟩:=V_dec hV hi
   have hsz:=dec_size hi
   rw[rs_cons hi,bytes_cons,ih _ (by omega) hV',enc_dec hi hd]
   unfold bytesAt
   rw[← List.drop_drop,List.take_append_drop]
  ·rw[rs_nil (by omega),List.drop_of_length_le (by simp;have:s.data.size=s.size:=rfl;omega)];rfl
theorem extract_drop (s:ByteArray) (i:Nat):(s.extract i s.size).data.toList=s.data.toList.drop i:=by
 rw[ByteArray.data_extract,Array.toList_extract]
 show (s.data.toList.drop i).take (s.data.size - i)=_
 rw[List.take_of_length_le (by simp)]
theorem dec_low {s:ByteArray} {i:Nat} (c:Nat) (hc:c < 128) (hi:i < s.size):((Utf8.decode s i).1:Int)=c↔bt s i=c:=by
 have hb0:=bt_lt s i
 have hb1:=bt_lt s (i+1)
 rw[dec]
 rcases Lib.decodeN_shape (s.size - i) (bt s i) (bt s (i+1)) (bt s (i+2)) (bt s (i+3)) with ⟨_,e⟩ | ⟨_,_,_,_,e⟩ | ⟨_,_,_,_,_,_,e⟩ | ⟨_,_,_,_,_,_,_,e⟩ | e
 ·rw[e];simp only;omega
 ·rw[e];simp only;omega
 ·rw[e];simp only;omega
 ·rw[e];simp only;omega
 ·rw[e];simp only
  constructor
  ·intro h;omega
  ·intro h
   have hx:bt s i < 128:=by omega
   unfold Lib.decodeN at e
   rw[if_pos hx] at e
   have:=congrArg Prod.fst e
   simp only at this;omega
theorem low32 {s:ByteArray} {i:Nat} (hi:i < s.size):((Utf8.decode s i).1:Int)=32↔bt s i=32:=by
 have:=dec_low (s:=s) (i:=i) 32 (by omega) hi
 omega
theorem low62 {s:ByteArray} {i:Nat} (hi:i < s.size):((Utf8.decode s i).1:Int)=62↔bt s i=62:=by
 have:=dec_low (s:=s) (i:=i) 62 (by omega) hi
 omega
theorem nm_rs {s:ByteArray} {i:Nat} (hV:V s i) (hi:i < s.size):nm s i=if ((Utf8.decode s i).1:Int)=32∨((Utf8.decode s i).1:Int)=62 then none else some (((Utf8.decode s i).1:Int),i+(Utf8.decode s i).2):=by
 have h32:=low32 hi
 have h62:=low62 hi
 have hr:=ref_of_good (V_dec hV hi).1
 unfold nm
 by_cases h:((Utf8.decode s i).1:Int)=32∨((Utf8.decode s i).1:Int)=62
 ·rw[if_pos h,if_neg]
  rintro⟨_,a,b⟩
  rcases h with h | h
  ·exact a (h32.1 h)
  ·exact b (h62.1 h)
 ·rw[if_neg h,if_pos ⟨hi,fun e=>h (Or.inl (h32.2 e)),fun e=>h (Or.inr (h62.2 e))⟩,hr]
  simp
def numOf (t:List Int):Option Int:=number (runesBytes t).data.toList
def lnOf (r:List Int):Option Ln :=
 match r with
 | a :: b :: t =>
  if a=32∨a=62 then none
  else if b=32 then (numOf t).map fun n=>⟨false,a,0,n⟩
  else if b=62 then
   match t with
   | c :: d :: u=>if c=32∨c=62 then none else if d=32 then (numOf u).map fun n=>⟨true,a,c,n⟩ else none
   | _=>none
  else none
 | _=>none
theorem fin_rs {s:ByteArray} {e:Bool} {a b:Int} {j:Nat} (hV:V s j):fin s e a b j=match rs s j with
  | d :: u=>if d=32 then (numOf u).map fun n=>⟨e,a,b,n⟩ else none
  | []=>none:=by
 unfold fin
 by_cases hj:j < s.size
 ·rw[rs_cons hj]
  simp only
  have h32:=low32 hj
  by_cases h:bt s j=32
  ·rw[if_pos ⟨hj,h⟩,if_pos (h32.2 h)]
   have hw:(Utf8.decode s j).2=1:=by
    rw[dec];unfold Lib.decodeN;rw[if_pos (by omega)]
   obtain⟨_,hV'⟩:=V_dec hV hj
   rw[hw] at hV' ⊢
   unfold numOf
   rw[bytes_rs _ _ (Nat.le_refl _) hV',extract_drop]
  ·rw[if_neg (fun x=>h x.2),if_neg (fun x=>h (h32.1 x))]
 ·rw[if_neg (fun x=>hj x.1),rs_nil (by omega)]
theorem line_rs {s:ByteArray} (hV:V s 0):lineOf s=lnOf (rs s 0):=by
 unfold lineOf
 by_cases h0:0 < s.size
 ·rw[nm_rs hV h0,rs_cons h0]
  obtain⟨_,hV1⟩:=V_dec hV h0
  rw[Nat.zero_add] at hV1 ⊢
  generalize ((Utf8.decode s 0).1:Int)=a
  generalize (Utf8.decode s 0).2=j at hV1
  by_cases ha:a=32∨a=62
  ·rw[if_pos ha]
   cases hr:rs s j with
   | nil=>rfl
   | cons b t=>simp only[lnOf,if_pos ha]
  ·rw[if_neg ha]
   simp only
   by_cases hj:j < s.size
   ·have h32:=low32 hj
    have h62:=low62 hj
    obtain⟨_,hV2⟩:=V_dec hV1 hj
    by_cases hb:bt s j=62
    ·have hw:(Utf8.decode s j).2=1:=by rw[dec];unfold Lib.decodeN;rw[if_pos (by omega)]
     rw[if_pos ⟨hj,hb⟩,rs_cons hj]
     have hr62:=h62.2 hb
     rw[hw] at hV2 ⊢
     generalize ((Utf8.decode s j).1:Int)=b at hr62
     subst hr62
     simp only[lnOf,if_neg ha]
     rw[if_neg (by decide),if_pos trivial]
     by_cases hk:j+1 < s.size
     ·rw[nm_rs hV2 hk,rs_cons hk]
      obtain⟨_,hV3⟩:=V_dec hV2 hk
      generalize ((Utf8.decode s (j+1)).1:Int)=c
      generalize j+1+(Utf8.decode s (j+1)).2=k at hV3
      by_cases hc:c=32∨c=62
      ·rw[if_pos hc]
       cases hrk:rs s k with
       | nil=>rfl
       | cons d u=>simp only[if_pos hc]
      ·rw[if_neg hc]
       simp only
       rw[fin_rs hV3]
       cases hrk:rs s k with
       | nil=>rfl
       | cons d u=>simp only[if_neg hc]
     ·have hn:nm s (j+1)=none:=by unfold nm;rw[if_neg (fun x=>hk x.1)]
      rw[hn,rs_nil (by omega)]
    ·rw[if_neg (fun x=>hb x.2),fin_rs hV1]
     rw[rs_cons hj]
     have hr62:¬ ((Utf8.decode s j).1:Int)=62:=fun x=>hb (h62.1 x)
     generalize ((Utf8.decode s j).1:Int)=b at hr62
     simp only[lnOf,if_neg ha]
     by_cases hb32:b=32
     ·rw[if_pos hb32,if_pos hb32]
     ·rw[if_neg hb32,if_neg hb32,if_neg hr62]
   ·rw[if_neg (fun x=>hj x.1),fin_rs hV1,rs_nil (by omega)]
    rfl
 ·have hn:nm s 0=none:=by unfold nm;rw[if_neg (fun x=>h0 x.1)]
  rw[hn,rs_nil (by omega)]
  rfl
end Go.Proofs.YteflnddphpjahaaGreatDoor.Sp
