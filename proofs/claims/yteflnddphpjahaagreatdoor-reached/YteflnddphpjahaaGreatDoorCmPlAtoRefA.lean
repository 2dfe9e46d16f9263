import GoSem.Core.Utf8
import Derived.Lib.DecodeN
import Derived.Lib.MapLaws
import Derived.Laws.Cover4
import Derived.Laws.Runes
import Derived.Laws.IdiomStrings
import Derived.Lib.SplitLaws
import Derived.WalkKit
import Derived.Test.YteflnddphpjahaaGreatDoorProg
import Derived.Outline
set_option linter.unusedVariables false
set_option linter.unusedSimpArgs false
set_option maxRecDepth 100000
set_option maxHeartbeats 16000000
namespace Go.Proofs.YteflnddphpjahaaGreatDoor.Sp
open Go
def bt (s:ByteArray) (i:Nat):Nat:=(s.get! i).toNat
theorem bt_lt (s:ByteArray) (i:Nat):bt s i < 256:=(s.get! i).toNat_lt
theorem bt_of (s:ByteArray) (i:Nat) (h:i < s.size):(s[i]'h).toNat=bt s i:=by
 unfold bt
 cases s with | mk d =>
 show _=(d[i]!).toNat
 rw[getElem!_pos d i h];rfl
def moreB (s:ByteArray) (i:Nat):Bool:=decide (i < s.size∧128≤bt s i∧bt s i < 192)
def moreV (s:ByteArray) (i:Nat):Int:=if moreB s i=true then (bt s i:Int) - 128 else 0
def refRune (s:ByteArray) (i:Nat):Int × Int :=
 if Utf8.decode s i=(65533,1) then (0,0) else (((Utf8.decode s i).1:Int),((Utf8.decode s i).2:Int))
def acc (s:ByteArray) (i:Nat) (r0:Int):Nat→Int
 | 0=>r0
 | k+1=>64 * acc s i r0 k+moreV s (i+(k+1))
theorem dec (s:ByteArray) (i:Nat):Utf8.decode s i=Lib.decodeN (s.size - i) (bt s i) (bt s (i+1)) (bt s (i+2)) (bt s (i+3)):=Lib.decode_at s i
theorem take_snoc (s:ByteArray) (k:Nat) (h:k < s.size):s.data.toList.take (k+1)=s.data.toList.take k++[s[k]]:=by
 rw[List.take_succ_eq_append_getElem (by simpa using h)];rfl
theorem take_all (s:ByteArray) (k:Nat) (h:s.size≤k):s.data.toList.take k=s.data.toList:=List.take_of_length_le (by simpa using h)
def dstep (o:Option Int) (c:UInt8):Option Int :=
 match o with
 | none=>none
 | some n=>if (c.toNat:Int) < 48∨57 < (c.toNat:Int)∨1000000000 < 10 * n+((c.toNat:Int) - 48) then none else some (10 * n+((c.toNat:Int) - 48))
def dval (l:List UInt8):Option Int:=l.foldl dstep (some 0)
theorem dval_snoc (l:List UInt8) (c:UInt8):dval (l++[c])=dstep (dval l) c:=by simp[dval,List.foldl_append]
theorem foldl_none (l:List UInt8):l.foldl dstep none=none:=by
 induction l with
 | nil=>rfl
 | cons c l ih=>exact ih
theorem dval_app_none {l:List UInt8} (r:List UInt8) (h:dval l=none):dval (l++r)=none:=by
 simp only[dval,List.foldl_append] at h ⊢;rw[h];exact foldl_none r
theorem dval_take_none {s:ByteArray} {k:Nat} (h:dval (s.data.toList.take k)=none):dval s.data.toList=none:=by
 have:=dval_app_none (s.data.toList.drop k) h
 rwa [List.take_append_drop] at this
theorem dval_bd {l:List UInt8} {n:Int} (h:dval l=some n):0≤n∧n≤1000000000:=by
 rcases List.eq_nil_or_concat l with rfl | ⟨l',c,rfl⟩
 ·simp[dval] at h;omega
 ·rw[List.concat_eq_append,dval_snoc] at h
  have aux:∀ o:Option Int,dstep o c=some n→(∀ m,o=some m→0≤m)→0≤n∧n≤1000000000:=by
   intro o ho hm
   cases o with
   | none=>simp[dstep] at ho
   | some m =>
    have:=hm m rfl
    simp only[dstep] at ho
    split at ho
    ·cases ho
    ·injection ho with ho;subst ho
     rename_i hc
     omega
  refine aux _ h ?_
  intro m hm
  have pos:∀ (l:List UInt8) (a:Int),0≤a→∀ m,l.foldl dstep (some a)=some m→0≤m:=by
   intro l
   induction l with
   | nil=>intro a ha m hm;simp at hm;omega
   | cons c l ih =>
    intro a ha m hm
    simp only[List.foldl_cons,dstep] at hm
    split at hm
    ·rw[foldl_none] at hm;cases hm
    ·exact ih _ (by omega) m hm
  exact pos l' 0 (by omega) m hm
def digits (l:List UInt8):Option Int:=if l=[]∨l.head? = some 48 then none else dval l
def number (l:List UInt8):Option Int :=
 if l=[48] then some 0
 else if l.head? = some 45 then (digits l.tail).map (fun n=>-n)
 else digits l
theorem number_bd {l:List UInt8} {n:Int} (h:number l=some n) : -1000000000≤n∧n≤1000000000:=by
 have hd:∀ (l:List UInt8) (m:Int),digits l=some m→0≤m∧m≤1000000000:=by
  intro l m hm
  unfold digits at hm
  split at hm
  ·cases hm
  ·exact dval_bd hm
 unfold number at h
 split at h
 ·injection h with h;omega
 ·split at h
  ·cases hq:digits l.tail with
   | none=>rw[hq] at h;cases h
   | some m=>rw[hq] at h;simp at h;have:=hd _ _ hq;omega
  ·have:=hd _ _ h;omega
def badFrom (s:ByteArray):Nat→Nat→Option Nat
 | 0,_=>none
 | f+1,i=>if i < s.size then (if Utf8.decode s i=(65533,1) then some i else badFrom s f (i+(Utf8.decode s i).2)) else none
def bad (s:ByteArray):Option Nat:=badFrom s s.size 0
theorem dec_size {s:ByteArray} {i:Nat} (hi:i < s.size):1≤(Utf8.decode s i).2∧(Utf8.decode s i).2≤4∧i+(Utf8.decode s i).2≤s.size:=by
 rw[dec];unfold Lib.decodeN
 repeat' split
 all_goals (simp only;omega)
theorem ref_of_good {s:ByteArray} {i:Nat} (h:¬ Utf8.decode s i=(65533,1)):refRune s i=(((Utf8.decode s i).1:Int),((Utf8.decode s i).2:Int)):=if_neg h
def cuts (s:ByteArray) (c:Nat):Nat→Nat × List ByteArray
 | 0=>(0,[])
 | k+1=>if k=s.size∨bt s k=c then (k+1,(cuts s c k).2++[s.extract (cuts s c k).1 k]) else cuts s c k
def split (s:ByteArray) (c:Nat):List ByteArray:=(cuts s c (s.size+1)).2
theorem cuts_yes {s:ByteArray} {c k:Nat} (h:k=s.size∨bt s k=c):cuts s c (k+1)=(k+1,(cuts s c k).2++[s.extract (cuts s c k).1 k]):=if_pos h
theorem cuts_no {s:ByteArray} {c k:Nat} (h:¬ (k=s.size∨bt s k=c)):cuts s c (k+1)=cuts s c k:=if_neg h
theorem cuts_bd (s:ByteArray) (c:Nat) (k:Nat):(cuts s c k).1≤k∧(cuts s c k).2.length≤k:=by
 induction k with
 | zero=>simp[cuts]
 | succ k ih =>
  by_cases h:k=s.size∨bt s k=c
  ·rw[cuts_yes h];simp;omega
  ·rw[cuts_no h];omega
def nm (s:ByteArray) (i:Nat):Option (Int × Nat):=
 if i < s.size∧bt s i≠32∧bt s i≠62 then some ((refRune s i).1,i+(refRune s i).2.toNat) else none
structure Ln where
 edge:Bool
 frm:Int
 to:Int
 n:Int
def fin (s:ByteArray) (edge:Bool) (a b:Int) (j:Nat):Option Ln :=
 if j < s.size∧bt s j=32 then (number (s.extract (j+1) s.size).data.toList).map (fun n=>⟨edge,a,b,n⟩) else none
def lineOf (s:ByteArray):Option Ln :=
 match nm s 0 with
 | none=>none
 | some (a,j) =>
  if j < s.size∧bt s j=62 then
   match nm s (j+1) with
   | none=>none
   | some (b,k)=>fin s true a b k
  else fin s false a 0 j
def rdFrom:List ByteArray→Nat→List Ln→List Nat→Except (Int × Int) (List Ln × List Nat)
 | [],_,L,A=>.ok (L,A)
 | x :: r,k,L,A=>if x.size=0 then rdFrom r (k+1) L A else
  match lineOf x with
  | none=>.error (3,(k:Int))
  | some l=>rdFrom r (k+1) (L++[l]) (A++[k])
def readSpec (s:ByteArray):Except (Int × Int) (List Ln × List Nat):=
 if 4000 < s.size then .error (1,0) else
 match bad s with
 | some i=>.error (2,(i:Int))
 | none=>rdFrom (split s 10) 0 [] []
theorem cuts_size (s:ByteArray) (c:Nat) (k:Nat):∀ x ∈ (cuts s c k).2,x.size≤s.size:=by
 induction k with
 | zero=>intro x hx;simp[cuts] at hx
 | succ k ih =>
  by_cases h:k=s.size∨bt s k=c
  ·rw[cuts_yes h]
   intro x hx
   rcases List.mem_append.1 hx with hx | hx
   ·exact ih x hx
   ·rw[List.mem_singleton.1 hx];simp;omega
  ·rw[cuts_no h];exact ih
theorem split_size (s:ByteArray) (c:Nat):∀ x ∈ split s c,x.size≤s.size:=cuts_size s c _
theorem split_len (s:ByteArray) (c:Nat):0 < (split s c).length∧(split s c).length≤s.size+1:=by
 unfold split
 refine⟨?_,(cuts_bd s c _).2⟩
 rw[cuts_yes (Or.inl rfl)];simp
def isV (a:Int) (l:Ln):Bool := !l.edge && l.frm == a
def hasV (L:List Ln) (n:Nat) (a:Int):Bool:=(L.take n).any (isV a)
def isLow (a:Int) (l:Ln):Bool := !l.edge && decide (l.frm < a)
def low (L:List Ln) (a:Int):Nat:=(L.filter (isLow a)).length
def first (p:Nat→Bool) (n:Nat):Option Nat:=(List.range n).find? p
theorem first_some {p:Nat→Bool} {n k:Nat} (hk:k < n) (h:∀ j,j < k→p j=false) (hp:p k=true):first p n=some k:=by
 unfold first
 rw[List.find?_range_eq_some]
 refine⟨hp,List.mem_range.2 hk,fun j hj=>?_⟩
 simp[h j hj]
theorem first_none {p:Nat→Bool} {n:Nat} (h:∀ j,j < n→p j=false):first p n=none:=by
 unfold first
 rw[List.find?_eq_none]
 intro j hj
 simp[h j (List.mem_range.1 hj)]
def twiceAt (L:List Ln) (i:Nat):Bool:=match L[i]? with
 | none=>false
 | some l=>!l.edge && hasV L i l.frm
def loose (L:List Ln) (i:Nat):Bool:=match L[i]? with
 | none=>false
 | some l=>l.edge && !(hasV L L.length l.frm && hasV L L.length l.to)
def edges (L:List Ln):Nat:=(L.filter (fun l=>l.edge)).length
def wrongSpec (L:List Ln) (A:List Nat):Int × Int :=
 match first (twiceAt L) L.length with
 | some i=>(4,(A.getD i 0:Nat))
 | none=>match first (loose L) L.length with
  | some i=>(5,(A.getD i 0:Nat))
  | none=>if 256 < edges L∨64 < L.length - edges L then (6,0) else (0,0)
def vHit (L:List Ln) (k:Nat) (l:Ln):Bool := !l.edge && low L l.frm == k
def vAt (L:List Ln) (k i:Nat):List Ln:=(L.take i).filter (vHit L k)
def vs (L:List Ln):Nat→List Ln
 | 0=>[]
 | k+1=>vs L k++vAt L k L.length
def eHit (L:List Ln) (a b:Nat) (l:Ln):Bool:=l.edge && (low L l.frm == a && low L l.to == b)
structure Ed where
 frm:Nat
 to:Nat
 n:Int
def eAt (L:List Ln) (a b i:Nat):List Ed:=((L.take i).filter (eHit L a b)).map fun l=>⟨a,b,l.n⟩
def eRow (L:List Ln) (a:Nat):Nat→List Ed
 | 0=>[]
 | b+1=>eRow L a b++eAt L a b L.length
def es (L:List Ln) (n:Nat):Nat→List Ed
 | 0=>[]
 | a+1=>es L n a++eRow L a n
def nv (L:List Ln):Nat:=L.length - edges L
def parseSpec (s:ByteArray):Except (Int × Int) (List Ln):=
 match readSpec s with
 | .error e=>.error e
 | .ok (L,A)=>if (wrongSpec L A).1=0 then .ok L else .error (wrongSpec L A)
theorem dec_bd (s:ByteArray) (i:Nat):(Utf8.decode s i).1≤1114111:=by
 have h0:=bt_lt s i
 have h1:=bt_lt s (i+1)
 have h2:=bt_lt s (i+2)
 rw[dec];unfold Lib.decodeN
 repeat' split
 all_goals (simp only;omega)
def bytesAt (s:ByteArray) (i n:Nat):List UInt8:=(s.data.toList.drop i).take n
theorem at_get (s:ByteArray) (i:Nat) (h:i < s.size):s.data.toList[i]'(by simpa using h)=UInt8.ofNat (bt s i):=by
 have:=bt_of s i h
 apply UInt8.toNat_inj.1
 rw[show (s.data.toList[i]'(by simpa using h))=s[i]'h from rfl,this]
 have:=bt_lt s i
 simp;omega
theorem bytesAt_succ (s:ByteArray) (i n:Nat) (h:i < s.size):bytesAt s i (n+1)=UInt8.ofNat (bt s i) :: bytesAt s (i+1) n:=by
 unfold bytesAt
 rw[List.drop_eq_getElem_cons (by simpa using h),List.take_succ_cons,at_get s i h]
theorem bytesAt_zero (s:ByteArray) (i:Nat):bytesAt s i 0=[]:=by simp[bytesAt]
theorem enc_dec {s:ByteArray} {i:Nat} (hi:i < s.size) (hv:¬ Utf8.decode s i=(65533,1)):(Utf8.encode ((Utf8.decode s i).1:Int)).data.toList=bytesAt s i (Utf8.decode s i).2:=by
 have hb0:=bt_lt s i
 have hb1:=bt_lt s (i+1)
 have hb2:=bt_lt s (i+2)
 have hb3:=bt_lt s (i+3)
 rw[dec] at hv ⊢
 have i2:i+1+1=i+2:=by omega
 have i3:i+2+1=i+3:=by omega
 rcases Lib.decodeN_shape (s.size - i) (bt s i) (bt s (i+1)) (bt s (i+2)) (bt s (i+3)) with ⟨c,e⟩ | ⟨c1,c2,c3,cv,e⟩ | ⟨c1,c2,c3,c4,cv,cs,e⟩ | ⟨c1,c2,c3,c4,c5,cv,cw,e⟩ | e
 ·rw[e,bytesAt_succ _ _ _ hi,bytesAt_zero]
  have hval:Utf8.valid ((bt s i:Nat):Int)=true:=by rw[validRune_eq];unfold validRune;exact decide_eq_true (by omega)
  simp only[Utf8.encode,hval,if_true,Int.toNat_natCast,c]
 ·rw[e,bytesAt_succ _ _ _ hi,bytesAt_succ _ _ _ (by omega),bytesAt_zero]
  generalize hc:bt s i % 32 * 64+bt s (i+1) % 64=r at *
  have hval:Utf8.valid ((r:Nat):Int)=true:=by rw[validRune_eq];unfold validRune;exact decide_eq_true (by omega)
  simp only[Utf8.encode,hval,if_true,Int.toNat_natCast]
  rw[if_neg (by omega),if_pos (by omega)]
  simp only
  rw[show (192+r / 64)=bt s i from by omega,show (128+r % 64)=bt s (i+1) from by omega]
 ·rw[e,bytesAt_succ _ _ _ hi,bytesAt_succ _ _ _ (by omega),bytesAt_succ _ _ _ (by omega),bytesAt_zero,i2]
  generalize hc:bt s i % 16 * 4096+bt s (i+1) % 64 * 64+bt s (i+2) % 64=r at *
  have hval:Utf8.valid ((r:Nat):Int)=true:=by rw[validRune_eq];unfold validRune;exact decide_eq_true (by omega)
  simp only[Utf8.encode,hval,if_true,Int.toNat_natCast]
  rw[if_neg (by omega),if_neg (by omega),if_pos (by omega)]
  simp only
  rw[show (224+r / 4096)=bt s i from by omega,show (128+r / 64 % 64)=bt s (i+1) from by omega,show (128+r % 64)=bt s (i+2) from by omega]
 ·rw[e,bytesAt_succ _ _ _ hi,bytesAt_succ _ _ _ (by omega),bytesAt_succ _ _ _ (by omega),i2,bytesAt_succ _ _ _ (by omega),bytesAt_zero,i3]
  generalize hc:bt s i % 8 * 262144+bt s (i+1) % 64 * 4096+bt s (i+2) % 64 * 64+bt s (i+3) % 64=r at *
  have hval:Utf8.valid ((r:Nat):Int)=true:=by rw[validRune_eq];unfold validRune;exact decide_eq_true (by omega)
  simp only[Utf8.encode,hval,if_true,Int.toNat_natCast]
  rw[if_neg (by omega),if_neg (by omega),if_neg (by omega)]
  simp only
  rw[show (240+r / 262144)=bt s i from by omega,show (128+r / 4096 % 64)=bt s (i+1) from by omega,show (128+r / 64 % 64)=bt s (i+2) from by omega,show (128+r % 64)=bt s (i+3) from by omega]
 ·exact absurd e hv
def V (s:ByteArray) (i:Nat):Prop := ∀ f,badFrom s f i=none
theorem bad_fuel (s:ByteArray):∀ (f g i:Nat),s.size - i≤f→badFrom s f i=none→badFrom s g i=none:=by
 intro f
 induction f with
 | zero =>
  intro g i hf _
  cases g with
  | zero=>rfl
  | succ g=>simp only[badFrom];rw[if_neg (by omega)]
 | succ f ih =>
  intro g i hf h
  cases g with
  | zero=>rfl
  | succ g =>
   simp only[badFrom] at h ⊢
   by_cases hi:i < s.size
   ·rw[if_pos hi] at h ⊢
    by_cases hd:Utf8.decode s i=(65533,1)
    ·rw[if_pos hd] at h;cases h
    ·rw[if_neg hd] at h ⊢
     have:=dec_size hi
     exact ih g _ (by omega) h
   ·rw[if_neg hi]
theorem V_of_bad {s:ByteArray} (h:bad s=none):V s 0:=fun f=>bad_fuel s s.size f 0 (by omega) h
theorem bad_of_V {s:ByteArray} (h:V s 0):bad s=none:=h _
theorem V_dec {s:ByteArray} {i:Nat} (h:V s i) (hi:i < s.size):¬ Utf8.decode s i=(65533,1)∧V s (i+(Utf8.decode s i).2):=by
 have h1:=h 1
 simp only[badFrom,if_pos hi] at h1
 have hd:¬ Utf8.decode s i=(65533,1):=fun e=>by rw[if_pos e] at h1;cases h1
 refine⟨hd,fun f=>?_⟩
 have h2:=h (f+1)
 simp only[badFrom,if_pos hi,if_neg hd] at h2
 exact h2
theorem V_end {s:ByteArray} {i:Nat} (hi:s.size≤i):V s i:=fun f=>by
 cases f with
 | zero=>rfl
 | succ f=>simp only[badFrom];rw[if_neg (by omega)]
theorem dec_cont {s:ByteArray} {i j:Nat} (hi:i < s.size) (hj:i < j) (hjw:j < i+(Utf8.decode s i).2):128≤bt s j∧bt s j < 192:=by
 have hb1:=bt_lt s (i+1)
 have hb2:=bt_lt s (i+2)
 have hb3:=bt_lt s (i+3)
 rw[dec] at hjw
 rcases Lib.decodeN_shape (s.size - i) (bt s i) (bt s (i+1)) (bt s (i+2)) (bt s (i+3)) with ⟨c,e⟩ | ⟨c1,c2,c3,cv,e⟩ | ⟨c1,c2,c3,c4,cv,cs,e⟩ | ⟨c1,c2,c3,c4,c5,cv,cw,e⟩ | e
 ·rw[e] at hjw;simp only at hjw;omega
 ·rw[e] at hjw;simp only at hjw
  obtain rfl:j=i+1:=by omega
  omega
 ·rw[e] at hjw;simp only at hjw
  obtain rfl | rfl:j=i+1∨j=i+2:=by omega
  ·omega
  ·omega
 ·rw[e] at hjw;simp only at hjw
  obtain rfl | rfl | rfl:j=i+1∨j=i+2∨j=i+3:=by omega
  ·omega
  ·omega
  ·omega
 ·rw[e] at hjw;simp only at hjw;omega
theorem V_at {s:ByteArray}:∀ (n i j:Nat),j - i≤n→V s i→i≤j→j < s.size→bt s j < 128→V s j:=by
 intro n
 induction n with
 | zero=>intro i j hn h hij _ _;obtain rfl:i=j:=(by omega);exact h
 | succ n ih =>
  intro i j hn h hij hj hb
  by_cases e:i=j
  ·rw[← e];exact h
  ·have hi:i < s.size:=by omega
   obtain⟨_,h2⟩:=V_dec h hi
   have hsz:=dec_size hi
   refine ih _ j (by omega) h2 ?_ hj hb
   apply Decidable.byContradiction
   intro hlt
   have:=dec_cont hi (j:=j) (by omega) (by omega)
   omega
def rl (s:ByteArray):Nat→Nat→List Int
 | 0,_=>[]
 | f+1,i=>if i < s.size then ((Utf8.decode s i).1:Int) :: rl s f (i+(Utf8.decode s i).2) else []
def rs (s:ByteArray) (i:Nat):List Int:=rl s (s.size - i) i
theorem rl_fuel (s:ByteArray):∀ (f g i:Nat),s.size - i≤f→s.size - i≤g→rl s f i=rl s g i:=by
 intro f
 induction f with
 | zero =>
  intro g i hf hg
  cases g with
  | zero=>rfl
  | succ g=>simp only[rl];rw[if_neg (by omega)]
 | succ f ih =>
  intro g i hf hg
  by_cases hi:i < s.size
  ·cases g with
   | zero=>omega
   | succ g =>
    have:=dec_size hi
    simp only[rl,if_pos hi]
    rw[ih g _ (by omega) (by omega)]
  ·cases g with
   | zero=>simp only[rl];rw[if_neg hi]
   | succ g=>simp only[rl];rw[if_neg hi,if_neg hi]
theorem rs_nil {s:ByteArray} {i:Nat} (h:s.size≤i):rs s i=[]:=by
 unfold rs;rw[show s.size - i=0 from by omega];rfl
theorem rs_cons {s:ByteArray} {i:Nat} (h:i < s.size):rs s i=((Utf8.decode s i).1:Int) :: rs s (i+(Utf8.decode s i).2):=by
 unfold rs
 have:=dec_size h
 rw[rl_fuel s (s.size - i) (s.size - i+1) i (by omega) (by omega)]
 simp only[rl,if_pos h]
 rw[rl_fuel s _ (s.size - (i+(Utf8.decode s i).2)) _ (by omega) (by omega)]
theorem runesFrom_eq (s:ByteArray):∀ (f i:Nat) (acc:Array Value),Conv.runesFrom s f i acc=acc++((rl s f i).map (Value.int .i32)).toArray:=by
 intro f
 induction f with
 | zero=>intro i acc;simp[Conv.runesFrom,rl]
 | succ f ih =>
  intro i acc
  simp only[Conv.runesFrom,rl]
  by_cases h:i < s.size
  ·rw[if_pos h,if_pos h,ih]
   apply Array.ext'
   simp
  ·rw[if_neg h,if_neg h];simp
theorem runes_eq (s:ByteArray):Conv.runesFrom s s.size 0 #[]=((rs s 0).map (Value.int .i32)).toArray:=by
 rw[runesFrom_eq];simp[rs]
theorem rs_len (s:ByteArray):∀ (n i:Nat),s.size - i≤n→(rs s i).length≤s.size - i:=by
 intro n
 induction n with
 | zero=>intro i h;rw[rs_nil (by omega)];simp
 | succ n ih =>
  intro i h
  by_cases hi:i < s.size
  ·have:=dec_size hi
   rw[rs_cons hi]
   have:=ih (i+(Utf8.decode s i).2) (by omega)
   simp only[List.length_cons];omega
  ·rw[rs_nil (by omega)];simp
theorem rs_bd (s:ByteArray):∀ (n i:Nat),s.size - i≤n→∀ r ∈ rs s i,0≤r∧r≤1114111:=by
 intro n
 induction n with
 | zero=>intro i h r hr;rw[rs_nil (by omega)] at hr;cases hr
 | succ n ih =>
  intro i h r hr
  by_cases hi:i < s.size
  ·have:=dec_size hi
   have hb:=dec_bd s i
   rw[rs_cons hi] at hr
   rcases List.mem_cons.1 hr with rfl | hr
   ·omega
   ·exact ih _ (by omega) r hr
  ·rw[rs_nil (by omega)] at hr;cases hr
theorem foldl_enc (ns:List Int):∀ a:ByteArray,(ns.foldl (fun r n=>r++Utf8.encode n) a).data.toList=a.data.toList++(ns.foldl (fun r n=>r++Utf8.encode n) ByteArray.empty).data.toList:=by
 induction ns with
 | nil=>intro a;simp
 | cons n ns ih =>
  intro a
  simp only[List.foldl_cons]
  rw[ih (a++Utf8.encode n),ih (ByteArray.empty++Utf8.encode n)]
  simp[ByteArray.data_append]
theorem bytes_cons (n:Int) (ns:List Int):(runesBytes (n :: ns)).data.toList=(Utf8.encode n).data.toList++(runesBytes ns).data.toList:=by
 unfold runesBytes
 simp only[List.foldl_cons]
 rw[foldl_enc ns (ByteArray.empty++Utf8.encode n)]
 simp[ByteArray.data_append]
theorem bytes_rs {s:ByteArray}:∀ (n i:Nat),s.size - i≤n→V s i→(runesBytes (rs s i)).data.toList=s.data.toList.drop i:=by
 intro n
 induction n with
 | zero =>
  intro i h _
  rw[rs_nil (by omega),List.drop_of_length_le (by simp;have:s.data.size=s.size:=rfl;omega)];rfl
 | succ n ih =>
  intro i h hV
  by_cases hi:i < s.size
  ·obtain⟨hd,hV'⟩:=V_dec hV hi
   have hsz:=dec_size hi
   rw[rs_cons hi,bytes_cons,ih _ (by omega) hV',enc_dec hi hd]
   unfold bytesAt
   rw[← List.drop_drop,List.take_append_drop]
  ·rw[rs_nil (by omega),List.drop_of_length_le (by simp;have:s.data.size=s.size:=rfl;omega)];rfl
theorem extract_drop (s:ByteArray) (i:Nat):(s.extract i s.size).data.toList=s.data.toList.drop i:=by
 rw[ByteArray.data_extract,Array.toList_extract]
 show (s.data.toList.drop i).take (s.data.size - i)=_
 rw[List.take_of_length_le (by simp)]
theorem dec_low {s:ByteArray} {i:Nat} (c:Nat) (hc:c < 128) (hi:i < s.size):((Utf8.decode s i).1:Int)=c↔bt s i=c:=by
 have hb0:=bt_lt s i
 have hb1:=bt_lt s (i+1)
 rw[dec]
 rcases Lib.decodeN_shape (s.size - i) (bt s i) (bt s (i+1)) (bt s (i+2)) (bt s (i+3)) with ⟨_,e⟩ | ⟨_,_,_,_,e⟩ | ⟨_,_,_,_,_,_,e⟩ | ⟨_,_,_,_,_,_,_,e⟩ | e
 ·rw[e];simp only;omega
 ·rw[e];simp only;omega
 ·rw[e];simp only;omega
 ·rw[e];simp only;omega
 ·rw[e];simp only
  constructor
  ·intro h;omega
  ·intro h
   have hx:bt s i < 128:=by omega
   unfold Lib.decodeN at e
   rw[if_pos hx] at e
   have:=congrArg Prod.fst e
   simp only at this;omega
theorem low32 {s:ByteArray} {i:Nat} (hi:i < s.size):((Utf8.decode s i).1:Int)=32↔bt s i=32:=by
 have:=dec_low (s:=s) (i:=i) 32 (by omega) hi
 omega
theorem low62 {s:ByteArray} {i:Nat} (hi:i < s.size):((Utf8.decode s i).1:Int)=62↔bt s i=62:=by
 have:=dec_low (s:=s) (i:=i) 62 (by omega) hi
 omega
theorem nm_rs {s:ByteArray} {i:Nat} (hV:V s i) (hi:i < s.size):nm s i=if ((Utf8.decode s i).1:Int)=32∨((Utf8.decode s i).1:Int)=62 then none else some (((Utf8.decode s i).1:Int),i+(Utf8.decode s i).2):=by
 have h32:=low32 hi
 have h62:=low62 hi
 have hr:=ref_of_good (V_dec hV hi).1
 unfold nm
 by_cases h:((Utf8.decode s i).1:Int)=32∨((Utf8.decode s i).1:Int)=62
 ·rw[if_pos h,if_neg]
  rintro⟨_,a,b⟩
  rcases h with h | h
  ·exact a (h32.1 h)
  ·exact b (h62.1 h)
 ·rw[if_neg h,if_pos ⟨hi,fun e=>h (Or.inl (h32.2 e)),fun e=>h (Or.inr (h62.2 e))⟩,hr]
  simp
def numOf (t:List Int):Option Int:=number (runesBytes t).data.toList
def lnOf (r:List Int):Option Ln :=
 match r with
 | a :: b :: t =>
  if a=32∨a=62 then none
  else if b=32 then (numOf t).map fun n=>⟨false,a,0,n⟩
  else if b=62 then
   match t with
   | c :: d :: u=>if c=32∨c=62 then none else if d=32 then (numOf u).map fun n=>⟨true,a,c,n⟩ else none
   | _=>none
  else none
 | _=>none
theorem fin_rs {s:ByteArray} {e:Bool} {a b:Int} {j:Nat} (hV:V s j):fin s e a b j=match rs s j with
  | d :: u=>if d=32 then (numOf u).map fun n=>⟨e,a,b,n⟩ else none
  | []=>none:=by
 unfold fin
 by_cases hj:j < s.size
 ·rw[rs_cons hj]
  simp only
  have h32:=low32 hj
  by_cases h:bt s j=32
  ·rw[if_pos ⟨hj,h⟩,if_pos (h32.2 h)]
   have hw:(Utf8.decode s j).2=1:=by
    rw[dec];unfold Lib.decodeN;rw[if_pos (by omega)]
   obtain⟨_,hV'⟩:=V_dec hV hj
   rw[hw] at hV' ⊢
   unfold numOf
   rw[bytes_rs _ _ (Nat.le_refl _) hV',extract_drop]
  ·rw[if_neg (fun x=>h x.2),if_neg (fun x=>h (h32.1 x))]
 ·rw[if_neg (fun x=>hj x.1),rs_nil (by omega)]
theorem line_rs {s:ByteArray} (hV:V s 0):lineOf s=lnOf (rs s 0):=by
 unfold lineOf
 by_cases h0:0 < s.size
 ·rw[nm_rs hV h0,rs_cons h0]
  obtain⟨_,hV1⟩:=V_dec hV h0
  rw[Nat.zero_add] at hV1 ⊢
  generalize ((Utf8.decode s 0).1:Int)=a
  generalize (Utf8.decode s 0).2=j at hV1
  by_cases ha:a=32∨a=62
  ·rw[if_pos ha]
   cases hr:rs s j with
   | nil=>rfl
   | cons b t=>simp only[lnOf,if_pos ha]
  ·rw[if_neg ha]
   simp only
   by_cases hj:j < s.size
   ·have h32:=low32 hj
    have h62:=low62 hj
    obtain⟨_,hV2⟩:=V_dec hV1 hj
    by_cases hb:bt s j=62
    ·have hw:(Utf8.decode s j).2=1:=by rw[dec];unfold Lib.decodeN;rw[if_pos (by omega)]
     rw[if_pos ⟨hj,hb⟩,rs_cons hj]
     have hr62:=h62.2 hb
     rw[hw] at hV2 ⊢
     generalize ((Utf8.decode s j).1:Int)=b at hr62
     subst hr62
     simp only[lnOf,if_neg ha]
     rw[if_neg (by decide),if_pos trivial]
     by_cases hk:j+1 < s.size
     ·rw[nm_rs hV2 hk,rs_cons hk]
      obtain⟨_,hV3⟩:=V_dec hV2 hk
      generalize ((Utf8.decode s (j+1)).1:Int)=c
      generalize j+1+(Utf8.decode s (j+1)).2=k at hV3
      by_cases hc:c=32∨c=62
      ·rw[if_pos hc]
       cases hrk:rs s k with
       | nil=>rfl
       | cons d u=>simp only[if_pos hc]
      ·rw[if_neg hc]
       simp only
       rw[fin_rs hV3]
       cases hrk:rs s k with
       | nil=>rfl
       | cons d u=>simp only[if_neg hc]
     ·have hn:nm s (j+1)=none:=by unfold nm;rw[if_neg (fun x=>hk x.1)]
      rw[hn,rs_nil (by omega)]
    ·rw[if_neg (fun x=>hb x.2),fin_rs hV1]
     rw[rs_cons hj]
     have hr62:¬ ((Utf8.decode s j).1:Int)=62:=fun x=>hb (h62.1 x)
     generalize ((Utf8.decode s j).1:Int)=b at hr62
     simp only[lnOf,if_neg ha]
     by_cases hb32:b=32
     ·rw[if_pos hb32,if_pos hb32]
     ·rw[if_neg hb32,if_neg hb32,if_neg hr62]
   ·rw[if_neg (fun x=>hj x.1),fin_rs hV1,rs_nil (by omega)]
    rfl
 ·have hn:nm s 0=none:=by unfold nm;rw[if_neg (fun x=>h0 x.1)]
  rw[hn,rs_nil (by omega)]
  rfl
theorem size_ex (s:ByteArray) (a b:Nat) (hb:b≤s.size):(s.extract a b).size=b - a:=by simp;omega
theorem bt_ex (s:ByteArray) (a b p:Nat) (hb:b≤s.size) (hp:a+p < b):bt (s.extract a b) p=bt s (a+p):=by
 have h1:p < (s.extract a b).size:=by rw[size_ex s a b hb];omega
 rw[← bt_of _ _ h1,← bt_of s (a+p) (by omega)]
 congr 1
 exact ByteArray.getElem_extract _
theorem decN_same {n n' b0 b1 b2 b3 c1 c2 c3 w r:Nat} (h:Lib.decodeN n b0 b1 b2 b3=(r,w)) (hv:¬ (r,w)=(65533,1)) (hn:w≤n') (e1:1 < w→c1=b1) (e2:2 < w→c2=b2) (e3:3 < w→c3=b3):Lib.decodeN n' b0 c1 c2 c3=(r,w):=by
 rcases Lib.decodeN_shape n b0 b1 b2 b3 with ⟨c,e⟩ | ⟨q1,q2,q3,cv,e⟩ | ⟨q1,q2,q3,q4,cv,cs,e⟩ | ⟨q1,q2,q3,q4,q5,cv,cw,e⟩ | e
 ·rw[e] at h;injection h with h1 h2;subst h1 h2
  unfold Lib.decodeN;rw[if_pos c]
 ·rw[e] at h;injection h with h1 h2;subst h1 h2
  rw[e1 (by omega)]
  unfold Lib.decodeN;rw[if_neg (by omega),if_pos (by omega),if_pos (by omega)]
 ·rw[e] at h;injection h with h1 h2;subst h1 h2
  rw[e1 (by omega),e2 (by omega)]
  unfold Lib.decodeN;rw[if_neg (by omega),if_neg (by omega),if_pos (by omega),if_pos (by omega)]
 ·rw[e] at h;injection h with h1 h2;subst h1 h2
  rw[e1 (by omega),e2 (by omega),e3 (by omega)]
  unfold Lib.decodeN;rw[if_neg (by omega),if_neg (by omega),if_neg (by omega),if_pos (by omega),if_pos (by omega)]
 ·rw[e] at h;exact absurd h.symm hv
theorem dec_ex {s:ByteArray} {a b p:Nat} (hb:b≤s.size) (hp:a+p < b) (hV:V s (a+p)) (hw:a+p+(Utf8.decode s (a+p)).2≤b):Utf8.decode (s.extract a b) p=Utf8.decode s (a+p):=by
 obtain⟨hd,_⟩:=V_dec hV (by omega)
 have hs:=dec_size (s:=s) (i:=a+p) (by omega)
 rw[dec (s.extract a b) p]
 have h0:=bt_ex s a b p hb hp
 rw[h0]
 have h:=dec s (a+p)
 refine(decN_same (r:=(Utf8.decode s (a+p)).1) (w:=(Utf8.decode s (a+p)).2) h.symm hd ?_ ?_ ?_ ?_).trans rfl
 ·rw[size_ex s a b hb];omega
 ·intro hw1;exact bt_ex s a b (p+1) hb (by omega)
 ·intro hw1;exact bt_ex s a b (p+2) hb (by omega)
 ·intro hw1;exact bt_ex s a b (p+3) hb (by omega)
theorem V_ex {s:ByteArray} {a b:Nat} (hb:b≤s.size) (hend:b=s.size∨bt s b < 128):∀ (n p:Nat),b - (a+p)≤n→V s (a+p)→V (s.extract a b) p:=by
 intro n
 induction n with
 | zero=>intro p hn _;exact V_end (by rw[size_ex s a b hb];omega)
 | succ n ih =>
  intro p hn hV f
  by_cases hp:a+p < b
  ·obtain⟨hd,hV'⟩:=V_dec hV (by omega)
   have hs:=dec_size (s:=s) (i:=a+p) (by omega)
   have hw:a+p+(Utf8.decode s (a+p)).2≤b:=by
    apply Decidable.byContradiction
    intro hlt
    rcases hend with he | he
    ·omega
    ·have:=dec_cont (s:=s) (i:=a+p) (j:=b) (by omega) (by omega) (by omega)
     omega
   cases f with
   | zero=>rfl
   | succ f =>
    simp only[badFrom]
    rw[if_pos (by rw[size_ex s a b hb];omega),dec_ex hb hp hV hw,if_neg hd]
    refine ih _ (by omega) ?_ f
    rw[← Nat.add_assoc];exact hV'
  ·exact V_end (by rw[size_ex s a b hb];omega) f
theorem cuts_V {s:ByteArray} (hV:V s 0):∀ k,k≤s.size+1→((cuts s 10 k).1≤s.size→V s (cuts s 10 k).1)∧(∀ x ∈ (cuts s 10 k).2,V x 0):=by
 intro k
 induction k with
 | zero=>intro _;exact⟨fun _=>hV,by simp[cuts]⟩
 | succ k ih =>
  intro hk
  obtain⟨h1,h2⟩:=ih (by omega)
  have hcb:=cuts_bd s 10 k
  by_cases h:k=s.size∨bt s k=10
  ·rw[cuts_yes h]
   have hx:V (s.extract (cuts s 10 k).1 k) 0:=by
    refine V_ex (by omega) (by rcases h with h | h;exact Or.inl h;exact Or.inr (by omega)) _ 0 (Nat.le_refl _) ?_
    rw[Nat.add_zero];exact h1 (by omega)
   refine⟨fun hle=>?_,fun x hx'=>?_⟩
   ·simp only at hle
    have hb:bt s k=10:=by rcases h with h | h;exact absurd h (by omega);exact h
    have hVk:=V_at k 0 k (by omega) hV (by omega) (by omega) (by omega)
    obtain⟨_,h3⟩:=V_dec hVk (by omega)
    have hw:(Utf8.decode s k).2=1:=by rw[dec];unfold Lib.decodeN;rw[if_pos (by omega)]
    rw[hw] at h3;exact h3
   ·rcases List.mem_append.1 hx' with hx' | hx'
    ·exact h2 x hx'
    ·rw[List.mem_singleton.1 hx'];exact hx
  ·rw[cuts_no h];exact⟨h1,h2⟩
theorem split_V {s:ByteArray} (hV:V s 0):∀ x ∈ split s 10,V x 0:=(cuts_V hV (s.size+1) (Nat.le_refl _)).2
def spl (c:UInt8):List UInt8→List (List UInt8)
 | []=>[[]]
 | b :: l=>if b=c then [] :: spl c l else
  match spl c l with
  | []=>[[b]]
  | h :: t=>(b :: h) :: t
theorem index_cons_eq (c:UInt8) (l:List UInt8):Lib.index (c :: l) [c]=0:=by
 simp[Lib.index,List.isPrefixOf]
theorem index_cons_ne {b c:UInt8} (h:¬ b=c) (l:List UInt8):Lib.index (b :: l) [c]=if Lib.index l [c] == -1 then -1 else Lib.index l [c]+1:=by
 have hp:([c]:List UInt8).isPrefixOf (b :: l)=false:=by simp[List.isPrefixOf];exact fun e=>h e.symm
 rw[Lib.index,hp];rfl
theorem splitK_spl (c:UInt8):∀ l:List UInt8,Lib.splitK [c] 0 (Lib.count l [c]) l=spl c l:=by
 intro l
 induction l with
 | nil=>rfl
 | cons b l ih =>
  by_cases h:b=c
  ·subst h
   rw[Lib.count_cons_eq,Nat.add_comm 1]
   simp only[Lib.splitK,index_cons_eq,spl,if_true]
   rw[if_neg (by decide)]
   simpa using ih
  ·rw[Lib.count_cons_ne b c l h]
   simp only[spl,if_neg h]
   rw[← ih]
   cases hk:Lib.count l [c] with
   | zero=>rfl
   | succ k =>
    simp only[Lib.splitK,index_cons_ne h]
    have hge:=Lib.index_ge l [c]
    by_cases hi:Lib.index l [c] = -1
    ·rw[hi];rfl
    ·have e1:(Lib.index l [c] == -1)=false:=beq_eq_false_iff_ne.2 hi
     rw[e1]
     simp only[Bool.false_eq_true,if_false]
     have e2:(Lib.index l [c]+1 == -1)=false:=beq_eq_false_iff_ne.2 (by omega)
     rw[e2]
     simp only[Bool.false_eq_true,if_false]
     have e3:(Lib.index l [c]+1).toNat=(Lib.index l [c]).toNat+1:=by omega
     rw[e3]
     simp
theorem spl_ne (c:UInt8) (l:List UInt8):∃ h t,spl c l=h :: t:=by
 cases l with
 | nil=>exact⟨_,_,rfl⟩
 | cons b l =>
  simp only[spl]
  split
  ·exact⟨_,_,rfl⟩
  ·split <;> exact⟨_,_,rfl⟩
theorem ex_list (s:ByteArray) (a b:Nat):(s.extract a b).data.toList=(s.data.toList.drop a).take (b - a):=by
 rw[ByteArray.data_extract,Array.toList_extract]
def pend (c:UInt8) (p l:List UInt8):List (List UInt8):=match spl c l with
 | []=>[]
 | h :: t=>(p++h) :: t
theorem cuts_spl (s:ByteArray) (c:UInt8):∀ k,k≤s.size→(cuts s c.toNat k).2.map (·.data.toList)++pend c (s.extract (cuts s c.toNat k).1 k).data.toList (s.data.toList.drop k)=spl c s.data.toList:=by
 intro k
 induction k with
 | zero =>
  intro _
  obtain⟨h,t,e⟩:=spl_ne c s.data.toList
  simp only[cuts,pend,ex_list,List.map_nil,List.nil_append,List.drop_zero,Nat.sub_zero,List.take_zero,e]
 | succ k ih =>
  intro hk
  have hl:k < s.data.toList.length:=by rw[Array.length_toList];show k < s.size;omega
  have hi:=ih (by omega)
  have hcb:=cuts_bd s c.toNat k
  have hg:s.data.toList[k]=UInt8.ofNat (bt s k):=at_get s k (by omega)
  rw[List.drop_eq_getElem_cons hl] at hi
  by_cases h:k=s.size∨bt s k=c.toNat
  ·have hb:bt s k=c.toNat:=by rcases h with h | h;exact absurd h (by omega);exact h
   have hc:s.data.toList[k]=c:=by rw[hg,hb];simp
   rw[cuts_yes h]
   rw[hc] at hi
   obtain⟨h',t,e⟩:=spl_ne c (s.data.toList.drop (k+1))
   simp only[pend,spl,if_true,List.append_nil] at hi
   simp only[pend,e,ex_list,Nat.sub_self,List.take_zero,List.nil_append,List.map_append,List.map_cons,List.map_nil,List.append_assoc,List.cons_append]
   rw[e] at hi
   simpa [ex_list] using hi
  ·have hb:¬ s.data.toList[k]=c:=fun e=>by
    rw[hg] at e
    have:=congrArg UInt8.toNat e
    have hlt:=bt_lt s k
    simp at this
    exact h (Or.inr (by omega))
   rw[cuts_no h]
   obtain⟨h',t,e⟩:=spl_ne c (s.data.toList.drop (k+1))
   simp only[pend,spl,if_neg hb,e] at hi
   simp only[pend,e]
   rw[← hi]
   congr 2
   rw[ex_list,ex_list]
   have:k+1 - (cuts s c.toNat k).1=(k - (cuts s c.toNat k).1)+1:=by omega
   rw[this,List.take_succ_eq_append_getElem (by rw[List.length_drop];omega),List.append_assoc]
   congr 1
   simp only[List.getElem_drop,List.cons_append,List.nil_append]
   congr 2
   omega
theorem split_spl (s:ByteArray) (c:UInt8):(split s c.toNat).map (·.data.toList)=spl c s.data.toList:=by
 have h:=cuts_spl s c s.size (Nat.le_refl _)
 unfold split
 rw[cuts_yes (Or.inl rfl)]
 rw[List.drop_of_length_le (by rw[Array.length_toList];exact Nat.le_refl _)] at h
 simp only[pend,spl,List.append_nil] at h
 simp only[List.map_append,List.map_cons,List.map_nil]
 exact h
theorem list_inj:∀ (a b:List ByteArray),a.map (·.data.toList)=b.map (·.data.toList)→a=b:=by
 intro a
 induction a with
 | nil=>intro b h;cases b with
  | nil=>rfl
  | cons _ _=>simp at h
 | cons x a ih =>
  intro b h
  cases b with
  | nil=>simp at h
  | cons y b =>
   simp only[List.map_cons,List.cons.injEq] at h
   have e:x=y:=by apply ByteArray.ext;apply Array.ext';exact h.1
   rw[e,ih b h.2]
theorem split_lib (s:ByteArray):Lib.splitB ⟨#[10]⟩ 0 (Lib.countB s ⟨#[10]⟩) s=split s 10:=by
 apply list_inj
 rw[Lib.splitB_data]
 have:=split_spl s 10
 rw[show (10:UInt8).toNat=10 from rfl] at this
 rw[this]
 exact splitK_spl 10 s.data.toList
theorem split_count (s:ByteArray):Lib.countB s ⟨#[10]⟩ + 1=(split s 10).length:=by
 rw[← split_lib,Lib.splitB_all ⟨#[10]⟩ (by decide) 0 _ s rfl]
end Go.Proofs.YteflnddphpjahaaGreatDoor.Sp
namespace Go.Proofs.YteflnddphpjahaaGreatDoor
open Go.RowKit
theorem hde {p:Prop} (h:p):Hid p:=h
theorem uh {p:Prop} (h:Hid p):p:=h
theorem nlr {n:Nat}:n≤n:=Nat.le_refl n
theorem obl {w w':World} {B e size n:Nat} {v:Value} {xs:List Value} (h:w.ownsRow B e size v n xs) (hb:Below w.heap.size w w'):w'.ownsRow B e size v n xs:=by
 obtain⟨h1,h2⟩:=h
 refine⟨h1,?_⟩
 rcases h2 with h2 | ⟨g,cap,cur,hv,hB,hg,r⟩
 ·exact .inl h2
 ·refine .inr ⟨g,cap,cur,hv,hB,?_,r⟩
  rw[hb.block g (Array.getElem?_eq_some_iff.1 hg).1,hg]
theorem own_ne {w:World} {B B' e e' s s' n n':Nat} {v v':Value} {xs xs':List Value} (h:w.ownsRow B e s v n xs) (h':w.ownsRow B' e' s' v' n' xs') (he:e≠e'):v.ownBlock=none∨v.ownBlock≠v'.ownBlock:=by
 obtain⟨_,h1⟩:=h
 obtain⟨_,h2⟩:=h'
 rcases h1 with ⟨rfl,_⟩ | ⟨g,cap,cur,rfl,hB,hg,_⟩
 ·exact .inl rfl
 ·right
  rcases h2 with ⟨rfl,_⟩ | ⟨g',cap',cur',rfl,hB',hg',_⟩
  ·intro h;cases h
  ·intro h
   have hgg:g=g':=by simpa [Value.ownBlock] using h
   subst hgg
   rw[hg] at hg'
   injection hg' with hg'
   injection hg' with _ hg'
   exact he hg'
theorem rel_app {B e size n:Nat} {xs ys:List Value} {w wr w1:World} {v v':Value} (hB:B≤wr.heap.size)
  (hown:wr.ownsRow B e size v n xs) (hnx:Below B w wr) (hgrow:wr.grownBy w1 v.ownBlock):Below B w w1 :=
 hnx.grown hgrow hB (fun j hj=>by have:=(hown.lt j hj).1;omega)
theorem own_app {B B' e e' s s' n n':Nat} {xs ys:List Value} {wr w1:World} {v u:Value} (hv:wr.ownsRow B e s v n xs) (hu:wr.ownsRow B' e' s' u n' ys) (he:e'≠e) (hgrow:wr.grownBy w1 v.ownBlock):w1.ownsRow B' e' s' u n' ys :=
 hu.kept hgrow (own_ne hu hv he)
end Go.Proofs.YteflnddphpjahaaGreatDoor
