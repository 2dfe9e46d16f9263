import GoSem.Core.Utf8
import Derived.Lib.DecodeN
import Derived.Lib.MapLaws
import Derived.Laws.Cover4
import Derived.Laws.Runes
import Derived.Laws.IdiomStrings
import Derived.Lib.SplitLaws
import Derived.WalkKit
set_option linter.unusedVariables false
set_option linter.unusedSimpArgs false
set_option maxRecDepth 100000
set_option maxHeartbeats 16000000
namespace Go.Proofs.YteflnddphpjahaaGreatDoor.Sp
open Go
def bt (s:ByteArray) (i:Nat):Nat:=(s.get! i).toNat
theorem bt_lt (s:ByteArray) (i:Nat):bt s i < 256:=(s.get! i).toNat_lt
theorem bt_of (s:ByteArray) (i:Nat) (h:i < s.size):(s[i]'h).toNat=bt s i:=by
 unfold bt
 cases s with | mk d =>
 show _=(d[i]!).toNat
 rw[getElem!_pos d i h];rfl
def moreB (s:ByteArray) (i:Nat):Bool:=decide (i < s.size∧128≤bt s i∧bt s i < 192)
def moreV (s:ByteArray) (i:Nat):Int:=if moreB s i=true then (bt s i:Int) - 128 else 0
theorem moreB_true {s:ByteArray} {i:Nat} (h:moreB s i=true):i < s.size∧128≤bt s i∧bt s i < 192:=by
 simpa [moreB] using h
theorem moreB_false {s:ByteArray} {i:Nat} (h:moreB s i=false):¬ (i < s.size∧128≤bt s i∧bt s i < 192):=by
 simpa [moreB] using h
theorem moreV_true {s:ByteArray} {i:Nat} (h:moreB s i=true):moreV s i=(bt s i:Int) - 128:=if_pos h
theorem moreV_false {s:ByteArray} {i:Nat} (h:moreB s i=false):moreV s i=0:=by unfold moreV;rw[h];rfl
def refRune (s:ByteArray) (i:Nat):Int × Int :=
 if Utf8.decode s i=(65533,1) then (0,0) else (((Utf8.decode s i).1:Int),((Utf8.decode s i).2:Int))
def acc (s:ByteArray) (i:Nat) (r0:Int):Nat→Int
 | 0=>r0
 | k+1=>64 * acc s i r0 k+moreV s (i+(k+1))
theorem moreV_bd (s:ByteArray) (i:Nat):0≤moreV s i∧moreV s i≤63:=by
 cases h:moreB s i with
 | true=>have:=moreB_true h;rw[moreV_true h];omega
 | false=>rw[moreV_false h];omega
theorem acc_bd (s:ByteArray) (i:Nat) (r0:Int) (h0:0≤r0) (h1:r0≤31) (k:Nat) (hk:k≤3):0≤acc s i r0 k∧acc s i r0 k≤8388607:=by
 have b1:=moreV_bd s (i+1)
 have b2:=moreV_bd s (i+2)
 have b3:=moreV_bd s (i+3)
 match k,hk with
 | 0,_=>simp only[acc];omega
 | 1,_=>simp only[acc,Nat.zero_add,Nat.reduceAdd];omega
 | 2,_=>simp only[acc,Nat.zero_add,Nat.reduceAdd];omega
 | 3,_=>simp only[acc,Nat.zero_add,Nat.reduceAdd];omega
theorem dec (s:ByteArray) (i:Nat):Utf8.decode s i=Lib.decodeN (s.size - i) (bt s i) (bt s (i+1)) (bt s (i+2)) (bt s (i+3)):=Lib.decode_at s i
theorem ref_ascii {s:ByteArray} {i:Nat} (h:bt s i < 128):refRune s i=((bt s i:Int),1):=by
 unfold refRune;rw[dec];simp only[Lib.decodeN,h,if_true]
 rw[if_neg];· rfl
 intro e;have:=congrArg Prod.fst e;simp only at this;omega
theorem ref_none {s:ByteArray} {i:Nat} (h:(128≤bt s i∧bt s i < 192)∨248≤bt s i):refRune s i=(0,0):=by
 have hb:=bt_lt s i
 unfold refRune;rw[dec,if_pos]
 unfold Lib.decodeN
 rw[if_neg (by omega),if_neg (by omega),if_neg (by omega),if_neg (by omega)]
theorem ref_bad2 {s:ByteArray} {i:Nat} (hi:i < s.size) (h:192≤bt s i) (h':bt s i < 224) (hm:moreB s (i+1)=false):refRune s i=(0,0):=by
 have hm:=moreB_false hm
 have hb:=bt_lt s (i+1)
 unfold refRune;rw[dec,if_pos]
 unfold Lib.decodeN
 rw[if_neg (by omega),if_neg (by omega),if_neg (by omega),if_neg (by omega)]
theorem ref_bad3 {s:ByteArray} {i:Nat} (hi:i < s.size) (h:224≤bt s i) (h':bt s i < 240) (hm:moreB s (i+1)=false∨moreB s (i+2)=false):refRune s i=(0,0):=by
 have hb:=bt_lt s (i+1)
 have hb2:=bt_lt s (i+2)
 unfold refRune;rw[dec,if_pos]
 unfold Lib.decodeN
 rcases hm with hm | hm <;> have hm:=moreB_false hm <;>
 rw[if_neg (by omega),if_neg (by omega),if_neg (by omega),if_neg (by omega)]
theorem ref_bad4 {s:ByteArray} {i:Nat} (hi:i < s.size) (h:240≤bt s i) (h':bt s i < 248) (hm:moreB s (i+1)=false∨moreB s (i+2)=false∨moreB s (i+3)=false):refRune s i=(0,0):=by
 have hb:=bt_lt s (i+1)
 have hb2:=bt_lt s (i+2)
 have hb3:=bt_lt s (i+3)
 unfold refRune;rw[dec,if_pos]
 unfold Lib.decodeN
 rcases hm with hm | hm | hm <;> have hm:=moreB_false hm <;>
 rw[if_neg (by omega),if_neg (by omega),if_neg (by omega),if_neg (by omega)]
theorem pair_ne {a:Nat} {n:Nat} (h:n≠1):¬ ((a,n)=((65533:Nat),(1:Nat))):=fun e=>h (congrArg Prod.snd e)
theorem ref_2 {s:ByteArray} {i:Nat} (hi:i < s.size) (h:192≤bt s i) (h':bt s i < 224) (h1:moreB s (i+1)=true) :
  refRune s i=if acc s i ((bt s i:Int) - 192) 1 < 128∨acc s i ((bt s i:Int) - 192) 1 > 1114111∨(55296≤acc s i ((bt s i:Int) - 192) 1∧acc s i ((bt s i:Int) - 192) 1 < 57344) then (0,0) else (acc s i ((bt s i:Int) - 192) 1,2):=by
 have g1:=moreB_true h1
 have e:acc s i ((bt s i:Int) - 192) 1=((bt s i % 32 * 64+bt s (i+1) % 64:Nat):Int):=by
  simp only[acc,moreV_true h1];omega
 rw[e]
 have hd:=dec s i
 unfold Lib.decodeN at hd
 rw[if_neg (by omega),if_pos (by omega)] at hd
 unfold refRune
 by_cases hc:bt s i % 32 * 64+bt s (i+1) % 64 ≥ 128
 ·rw[if_pos hc] at hd
  rw[hd,if_neg (pair_ne (by omega)),if_neg (by omega)];rfl
 ·rw[if_neg hc] at hd
  rw[hd,if_pos rfl,if_pos (by omega)]
theorem ref_3 {s:ByteArray} {i:Nat} (hi:i < s.size) (h:224≤bt s i) (h':bt s i < 240) (h1:moreB s (i+1)=true) (h2:moreB s (i+2)=true) :
  refRune s i=if acc s i ((bt s i:Int) - 224) 2 < 2048∨acc s i ((bt s i:Int) - 224) 2 > 1114111∨(55296≤acc s i ((bt s i:Int) - 224) 2∧acc s i ((bt s i:Int) - 224) 2 < 57344) then (0,0) else (acc s i ((bt s i:Int) - 224) 2,3):=by
 have g1:=moreB_true h1
 have g2:=moreB_true h2
 have e:acc s i ((bt s i:Int) - 224) 2=((bt s i % 16 * 4096+bt s (i+1) % 64 * 64+bt s (i+2) % 64:Nat):Int):=by
  simp only[acc,moreV_true h1,moreV_true h2];omega
 rw[e]
 have hd:=dec s i
 unfold Lib.decodeN at hd
 rw[if_neg (by omega),if_neg (by omega),if_pos (by omega)] at hd
 unfold refRune
 by_cases hc:bt s i % 16 * 4096+bt s (i+1) % 64 * 64+bt s (i+2) % 64 ≥ 2048∧(bt s i % 16 * 4096+bt s (i+1) % 64 * 64+bt s (i+2) % 64 < 55296∨(57344≤bt s i % 16 * 4096+bt s (i+1) % 64 * 64+bt s (i+2) % 64∧bt s i % 16 * 4096+bt s (i+1) % 64 * 64+bt s (i+2) % 64≤1114111))
 ·rw[if_pos hc] at hd
  rw[hd,if_neg (pair_ne (by omega)),if_neg (by omega)];rfl
 ·rw[if_neg hc] at hd
  rw[hd,if_pos rfl,if_pos (by omega)]
theorem ref_4 {s:ByteArray} {i:Nat} (hi:i < s.size) (h:240≤bt s i) (h':bt s i < 248) (h1:moreB s (i+1)=true) (h2:moreB s (i+2)=true) (h3:moreB s (i+3)=true) :
  refRune s i=if acc s i ((bt s i:Int) - 240) 3 < 65536∨acc s i ((bt s i:Int) - 240) 3 > 1114111∨(55296≤acc s i ((bt s i:Int) - 240) 3∧acc s i ((bt s i:Int) - 240) 3 < 57344) then (0,0) else (acc s i ((bt s i:Int) - 240) 3,4):=by
 have g1:=moreB_true h1
 have g2:=moreB_true h2
 have g3:=moreB_true h3
 have e:acc s i ((bt s i:Int) - 240) 3=((bt s i % 8 * 262144+bt s (i+1) % 64 * 4096+bt s (i+2) % 64 * 64+bt s (i+3) % 64:Nat):Int):=by
  simp only[acc,moreV_true h1,moreV_true h2,moreV_true h3];omega
 rw[e]
 have hd:=dec s i
 unfold Lib.decodeN at hd
 rw[if_neg (by omega),if_neg (by omega),if_neg (by omega),if_pos (by omega)] at hd
 unfold refRune
 by_cases hc:bt s i % 8 * 262144+bt s (i+1) % 64 * 4096+bt s (i+2) % 64 * 64+bt s (i+3) % 64 ≥ 65536∧(bt s i % 8 * 262144+bt s (i+1) % 64 * 4096+bt s (i+2) % 64 * 64+bt s (i+3) % 64 < 55296∨(57344≤bt s i % 8 * 262144+bt s (i+1) % 64 * 4096+bt s (i+2) % 64 * 64+bt s (i+3) % 64∧bt s i % 8 * 262144+bt s (i+1) % 64 * 4096+bt s (i+2) % 64 * 64+bt s (i+3) % 64≤1114111))
 ·rw[if_pos hc] at hd
  rw[hd,if_neg (pair_ne (by omega)),if_neg (by omega)];rfl
 ·rw[if_neg hc] at hd
  rw[hd,if_pos rfl,if_pos (by omega)]
theorem take_snoc (s:ByteArray) (k:Nat) (h:k < s.size):s.data.toList.take (k+1)=s.data.toList.take k++[s[k]]:=by
 rw[List.take_succ_eq_append_getElem (by simpa using h)];rfl
theorem take_all (s:ByteArray) (k:Nat) (h:s.size≤k):s.data.toList.take k=s.data.toList:=List.take_of_length_le (by simpa using h)
def dstep (o:Option Int) (c:UInt8):Option Int :=
 match o with
 | none=>none
 | some n=>if (c.toNat:Int) < 48∨57 < (c.toNat:Int)∨1000000000 < 10 * n+((c.toNat:Int) - 48) then none else some (10 * n+((c.toNat:Int) - 48))
def dval (l:List UInt8):Option Int:=l.foldl dstep (some 0)
theorem dval_snoc (l:List UInt8) (c:UInt8):dval (l++[c])=dstep (dval l) c:=by simp[dval,List.foldl_append]
theorem foldl_none (l:List UInt8):l.foldl dstep none=none:=by
 induction l with
 | nil=>rfl
 | cons c l ih=>exact ih
theorem dval_app_none {l:List UInt8} (r:List UInt8) (h:dval l=none):dval (l++r)=none:=by
 simp only[dval,List.foldl_append] at h ⊢;rw[h];exact foldl_none r
theorem dval_take_none {s:ByteArray} {k:Nat} (h:dval (s.data.toList.take k)=none):dval s.data.toList=none:=by
 have:=dval_app_none (s.data.toList.drop k) h
 rwa [List.take_append_drop] at this
theorem dval_bd {l:List UInt8} {n:Int} (h:dval l=some n):0≤n∧n≤1000000000:=by
 rcases List.eq_nil_or_concat l with rfl | ⟨l',c,rfl⟩
 ·simp[dval] at h;omega
 ·rw[List.concat_eq_append,dval_snoc] at h
  have aux:∀ o:Option Int,dstep o c=some n→(∀ m,o=some m→0≤m)→0≤n∧n≤1000000000:=by
   intro o ho hm
   cases o with
   | none=>simp[dstep] at ho
   | some m =>
    have:=hm m rfl
    simp only[dstep] at ho
    split at ho
    ·cases ho
    ·injection ho with ho;subst ho
     rename_i hc
     omega
  refine aux _ h ?_
  intro m hm
  have pos:∀ (l:List UInt8) (a:Int),0≤a→∀ m,l.foldl dstep (some a)=some m→0≤m:=by
   intro l
   induction l with
   | nil=>intro a ha m hm;simp at hm;omega
   | cons c l ih =>
    intro a ha m hm
    simp only[List.foldl_cons,dstep] at hm
    split at hm
    ·rw[foldl_none] at hm;cases hm
    ·exact ih _ (by omega) m hm
  exact pos l' 0 (by omega) m hm
def digits (l:List UInt8):Option Int:=if l=[]∨l.head? = some 48 then none else dval l
def number (l:List UInt8):Option Int :=
 if l=[48] then some 0
 else if l.head? = some 45 then (digits l.tail).map (fun n=>-n)
 else digits l
def badFrom (s:ByteArray):Nat→Nat→Option Nat
 | 0,_=>none
 | f+1,i=>if i < s.size then (if Utf8.decode s i=(65533,1) then some i else badFrom s f (i+(Utf8.decode s i).2)) else none
def bad (s:ByteArray):Option Nat:=badFrom s s.size 0
def badInt:Option Nat→Int
 | none=>-1
 | some i=>i
theorem dec_size {s:ByteArray} {i:Nat} (hi:i < s.size):1≤(Utf8.decode s i).2∧(Utf8.decode s i).2≤4∧i+(Utf8.decode s i).2≤s.size:=by
 rw[dec];unfold Lib.decodeN
 repeat' split
 all_goals (simp only;omega)
theorem ref_of_bad {s:ByteArray} {i:Nat} (h:Utf8.decode s i=(65533,1)):refRune s i=(0,0):=if_pos h
theorem ref_of_good {s:ByteArray} {i:Nat} (h:¬ Utf8.decode s i=(65533,1)):refRune s i=(((Utf8.decode s i).1:Int),((Utf8.decode s i).2:Int)):=if_neg h
def cuts (s:ByteArray) (c:Nat):Nat→Nat × List ByteArray
 | 0=>(0,[])
 | k+1=>if k=s.size∨bt s k=c then (k+1,(cuts s c k).2++[s.extract (cuts s c k).1 k]) else cuts s c k
def split (s:ByteArray) (c:Nat):List ByteArray:=(cuts s c (s.size+1)).2
theorem cuts_yes {s:ByteArray} {c k:Nat} (h:k=s.size∨bt s k=c):cuts s c (k+1)=(k+1,(cuts s c k).2++[s.extract (cuts s c k).1 k]):=if_pos h
theorem cuts_no {s:ByteArray} {c k:Nat} (h:¬ (k=s.size∨bt s k=c)):cuts s c (k+1)=cuts s c k:=if_neg h
theorem cuts_bd (s:ByteArray) (c:Nat) (k:Nat):(cuts s c k).1≤k∧(cuts s c k).2.length≤k:=by
 induction k with
 | zero=>simp[cuts]
 | succ k ih =>
  by_cases h:k=s.size∨bt s k=c
  ·rw[cuts_yes h];simp;omega
  ·rw[cuts_no h];omega
def nm (s:ByteArray) (i:Nat):Option (Int × Nat):=
 if i < s.size∧bt s i≠32∧bt s i≠62 then some ((refRune s i).1,i+(refRune s i).2.toNat) else none
theorem nm_bd {s:ByteArray} {i:Nat} {r:Int} {j:Nat} (h:nm s i=some (r,j)):i < s.size∧i≤j∧j≤s.size:=by
 unfold nm at h
 split at h
 ·rename_i hc
  injection h with h
  have h2:=congrArg Prod.snd h
  simp only at h2
  have hd:=dec_size hc.1
  have:0≤(refRune s i).2∧i+(refRune s i).2.toNat≤s.size:=by
   unfold refRune
   split <;> simp only <;> omega
  omega
 ·cases h
structure Ln where
 edge:Bool
 frm:Int
 to:Int
 n:Int
def fin (s:ByteArray) (edge:Bool) (a b:Int) (j:Nat):Option Ln :=
 if j < s.size∧bt s j=32 then (number (s.extract (j+1) s.size).data.toList).map (fun n=>⟨edge,a,b,n⟩) else none
def lineOf (s:ByteArray):Option Ln :=
 match nm s 0 with
 | none=>none
 | some (a,j) =>
  if j < s.size∧bt s j=62 then
   match nm s (j+1) with
   | none=>none
   | some (b,k)=>fin s true a b k
  else fin s false a 0 j
def rdFrom:List ByteArray→Nat→List Ln→List Nat→Except (Int × Int) (List Ln × List Nat)
 | [],_,L,A=>.ok (L,A)
 | x :: r,k,L,A=>if x.size=0 then rdFrom r (k+1) L A else
  match lineOf x with
  | none=>.error (3,(k:Int))
  | some l=>rdFrom r (k+1) (L++[l]) (A++[k])
def readSpec (s:ByteArray):Except (Int × Int) (List Ln × List Nat):=
 if 4000 < s.size then .error (1,0) else
 match bad s with
 | some i=>.error (2,(i:Int))
 | none=>rdFrom (split s 10) 0 [] []
theorem rd_end {ls:List ByteArray} {k:Nat} (h:ls.length≤k) (L:List Ln) (A:List Nat):rdFrom (ls.drop k) k L A = .ok (L,A):=by
 rw[List.drop_of_length_le h];rfl
theorem rd_empty {ls:List ByteArray} {k:Nat} (h:k < ls.length) (L:List Ln) (A:List Nat) (he:(ls[k]).size=0):rdFrom (ls.drop k) k L A=rdFrom (ls.drop (k+1)) (k+1) L A:=by
 rw[List.drop_eq_getElem_cons h];simp only[rdFrom,he,if_true]
theorem rd_none {ls:List ByteArray} {k:Nat} (h:k < ls.length) (L:List Ln) (A:List Nat) (he:¬ (ls[k]).size=0) (hl:lineOf ls[k]=none):rdFrom (ls.drop k) k L A = .error (3,(k:Int)):=by
 rw[List.drop_eq_getElem_cons h];simp only[rdFrom,he,if_false,hl]
theorem rd_some {ls:List ByteArray} {k:Nat} (h:k < ls.length) (L:List Ln) (A:List Nat) (he:¬ (ls[k]).size=0) {l:Ln} (hl:lineOf ls[k]=some l):rdFrom (ls.drop k) k L A=rdFrom (ls.drop (k+1)) (k+1) (L++[l]) (A++[k]):=by
 rw[List.drop_eq_getElem_cons h];simp only[rdFrom,he,if_false,hl]
theorem cuts_size (s:ByteArray) (c:Nat) (k:Nat):∀ x ∈ (cuts s c k).2,x.size≤s.size:=by
 induction k with
 | zero=>intro x hx;simp[cuts] at hx
 | succ k ih =>
  by_cases h:k=s.size∨bt s k=c
  ·rw[cuts_yes h]
   intro x hx
   rcases List.mem_append.1 hx with hx | hx
   ·exact ih x hx
   ·rw[List.mem_singleton.1 hx];simp;omega
  ·rw[cuts_no h];exact ih
theorem split_size (s:ByteArray) (c:Nat):∀ x ∈ split s c,x.size≤s.size:=cuts_size s c _
theorem split_len (s:ByteArray) (c:Nat):0 < (split s c).length∧(split s c).length≤s.size+1:=by
 unfold split
 refine⟨?_,(cuts_bd s c _).2⟩
 rw[cuts_yes (Or.inl rfl)];simp
def isLow (a:Int) (l:Ln):Bool := !l.edge && decide (l.frm < a)
def low (L:List Ln) (a:Int):Nat:=(L.filter (isLow a)).length
def lowTo (L:List Ln) (a:Int) (k:Nat):Nat:=((L.take k).filter (isLow a)).length
theorem take_succ {α : Type} (L:List α) (k:Nat) (h:k < L.length):L.take (k+1)=L.take k++[L[k]]:=List.take_succ_eq_append_getElem h
theorem lowTo_zero (L:List Ln) (a:Int):lowTo L a 0=0:=by simp[lowTo]
theorem lowTo_yes {L:List Ln} {k:Nat} {a:Int} (h:k < L.length) (hv:isLow a L[k]=true):lowTo L a (k+1)=lowTo L a k+1:=by
 unfold lowTo;rw[take_succ L k h,List.filter_append];simp[hv]
theorem lowTo_no {L:List Ln} {k:Nat} {a:Int} (h:k < L.length) (hv:isLow a L[k]=false):lowTo L a (k+1)=lowTo L a k:=by
 unfold lowTo;rw[take_succ L k h,List.filter_append];simp[hv]
theorem lowTo_all {L:List Ln} {k:Nat} (a:Int) (h:L.length≤k):lowTo L a k=low L a:=by
 unfold lowTo low;rw[List.take_of_length_le h]
def first (p:Nat→Bool) (n:Nat):Option Nat:=(List.range n).find? p
def vHit (L:List Ln) (k:Nat) (l:Ln):Bool := !l.edge && low L l.frm == k
def vAt (L:List Ln) (k i:Nat):List Ln:=(L.take i).filter (vHit L k)
def vs (L:List Ln):Nat→List Ln
 | 0=>[]
 | k+1=>vs L k++vAt L k L.length
def eHit (L:List Ln) (a b:Nat) (l:Ln):Bool:=l.edge && (low L l.frm == a && low L l.to == b)
structure Ed where
 frm:Nat
 to:Nat
 n:Int
def eAt (L:List Ln) (a b i:Nat):List Ed:=((L.take i).filter (eHit L a b)).map fun l=>⟨a,b,l.n⟩
def eRow (L:List Ln) (a:Nat):Nat→List Ed
 | 0=>[]
 | b+1=>eRow L a b++eAt L a b L.length
def es (L:List Ln) (n:Nat):Nat→List Ed
 | 0=>[]
 | a+1=>es L n a++eRow L a n
def V (s:ByteArray) (i:Nat):Prop := ∀ f,badFrom s f i=none
def rl (s:ByteArray):Nat→Nat→List Int
 | 0,_=>[]
 | f+1,i=>if i < s.size then ((Utf8.decode s i).1:Int) :: rl s f (i+(Utf8.decode s i).2) else []
def rs (s:ByteArray) (i:Nat):List Int:=rl s (s.size - i) i
end Go.Proofs.YteflnddphpjahaaGreatDoor.Sp
namespace Go.Proofs.YteflnddphpjahaaGreatDoor
open Go.RowKit
theorem hde {p:Prop} (h:p):Hid p:=h
theorem uh {p:Prop} (h:Hid p):p:=h
theorem nlr {n:Nat}:n≤n:=Nat.le_refl n
theorem obl {w w':World} {B e size n:Nat} {v:Value} {xs:List Value} (h:w.ownsRow B e size v n xs) (hb:Below w.heap.size w w'):w'.ownsRow B e size v n xs:=by
 obtain⟨h1,h2⟩:=h
 refine⟨h1,?_⟩
 rcases h2 with h2 | ⟨g,cap,cur,hv,hB,hg,r⟩
 ·exact .inl h2
 ·refine .inr ⟨g,cap,cur,hv,hB,?_,r⟩
  rw[hb.block g (Array.getElem?_eq_some_iff.1 hg).1,hg]
theorem own_ne {w:World} {B B' e e' s s' n n':Nat} {v v':Value} {xs xs':List Value} (h:w.ownsRow B e s v n xs) (h':w.ownsRow B' e' s' v' n' xs') (he:e≠e'):v.ownBlock=none∨v.ownBlock≠v'.ownBlock:=by
 obtain⟨_,h1⟩:=h
 obtain⟨_,h2⟩:=h'
 rcases h1 with ⟨rfl,_⟩ | ⟨g,cap,cur,rfl,hB,hg,_⟩
 ·exact .inl rfl
 ·right
  rcases h2 with ⟨rfl,_⟩ | ⟨g',cap',cur',rfl,hB',hg',_⟩
  ·intro h;cases h
  ·intro h
   have hgg:g=g':=by simpa [Value.ownBlock] using h
   subst hgg
   rw[hg] at hg'
   injection hg' with hg'
   injection hg' with _ hg'
   exact he hg'
theorem rel_app {B e size n:Nat} {xs ys:List Value} {w wr w1:World} {v v':Value} (hB:B≤wr.heap.size)
  (hown:wr.ownsRow B e size v n xs) (hnx:Below B w wr) (hgrow:wr.grownBy w1 v.ownBlock):Below B w w1 :=
 hnx.grown hgrow hB (fun j hj=>by have:=(hown.lt j hj).1;omega)
theorem own_app {B B' e e' s s' n n':Nat} {xs ys:List Value} {wr w1:World} {v u:Value} (hv:wr.ownsRow B e s v n xs) (hu:wr.ownsRow B' e' s' u n' ys) (he:e'≠e) (hgrow:wr.grownBy w1 v.ownBlock):w1.ownsRow B' e' s' u n' ys :=
 hu.kept hgrow (own_ne hu hv he)
end Go.Proofs.YteflnddphpjahaaGreatDoor
