import Derived.Test.YteflnddphpjahaaGreatDoorClPlAtoPlK
import Derived.Lib.SplitLaws
import Derived.WalkKit
import Derived.Test.YteflnddphpjahaaGreatDoorProg
import Derived.Outline
set_option linter.unusedVariables false
set_option linter.unusedSimpArgs false
set_option maxRecDepth 100000
set_option maxHeartbeats 16000000
namespace Go.Proofs.YteflnddphpjahaaGreatDoor.Sp
open Go
theorem size_ex (s:ByteArray) (a b:Nat) (hb:b≤s.size):(s.extract a b).size=b - a:=by simp;omega
theorem bt_ex (s:ByteArray) (a b p:Nat) (hb:b≤s.size) (hp:a+p < b):bt (s.extract a b) p=bt s (a+p):=by
 have h1:p < (s.extract a b).size:=by rw[size_ex s a b hb];omega
 rw[← bt_of _ _ h1,← bt_of s (a+p) (by omega)]
 congr 1
 exact ByteArray.getElem_extract _
theorem decN_same {n n' b0 b1 b2 b3 c1 c2 c3 w r:Nat} (h:Lib.decodeN n b0 b1 b2 b3=(r,w)) (hv:¬ (r,w)=(65533,1)) (hn:w≤n') (e1:1 < w→c1=b1) (e2:2 < w→c2=b2) (e3:3 < w→c3=b3):Lib.decodeN n' b0 c1 c2 c3=(r,w):=by
 rcases Lib.decodeN_shape n b0 b1 b2 b3 with ⟨c,e⟩ | ⟨q1,q2,q3,cv,e⟩ | ⟨q1,q2,q3,q4,cv,cs,e⟩ | ⟨q1,q2,q3,q4,q5,cv,cw,e⟩ | e
 ·rw[e] at h;injection h with h1 h2;subst h1 h2
  unfold Lib.decodeN;rw[if_pos c]
 ·rw[e] at h;injection h with h1 h2;subst h1 h2
  rw[e1 (by omega)]
  unfold Lib.decodeN;rw[if_neg (by omega),if_pos (by omega),if_pos (by omega)]
 ·rw[e] at h;injection h with h1 h2;subst h1 h2
  rw[e1 (by omega),e2 (by omega)]
  unfold Lib.decodeN;rw[if_neg (by omega),if_neg (by omega),if_pos (by omega),if_pos (by omega)]
 ·rw[e] at h;injection h with h1 h2;subst h1 h2
  rw[e1 (by omega),e2 (by omega),e3 (by omega)]
  unfold Lib.decodeN;rw[if_neg (by omega),if_neg (by omega),if_neg (by omega),if_pos (by omega),if_pos (by omega)]
 ·rw[e] at h;exact absurd h.symm hv
theorem dec_ex {s:ByteArray} {a b p:Nat} (hb:b≤s.size) (hp:a+p < b) (hV:V s (a+p)) (hw:a+p+(Utf8.decode s (a+p)).2≤b):Utf8.decode (s.extract a b) p=Utf8.decode s (a+p):=by
 obtain⟨hd,_⟩:=V_dec hV (by omega)
 have hs:=dec_size (s:=s) (i:=a+p) (by omega)
 rw[dec (s.extract a b) p]
 have h0:=bt_ex s a b p hb hp
 rw[h0]
 have h:=dec s (a+p)
 refine(decN_same (r:=(Utf8.decode s (a+p)).1) (w:=(Utf8.decode s (a+p)).2) h.symm hd ?_ ?_ ?_ ?_).trans rfl
 ·rw[size_ex s a b hb];omega
 ·intro hw1;exact bt_ex s a b (p+1) hb (by omega)
 ·intro hw1;exact bt_ex s a b (p+2) hb (by omega)
 ·intro hw1;exact bt_ex s a b (p+3) hb (by omega)
theorem V_ex {s:ByteArray} {a b:Nat} (hb:b≤s.size) (hend:b=s.size∨bt s b < 128):∀ (n p:Nat),b - (a+p)≤n→V s (a+p)→V (s.extract a b) p:=by
 intro n
 induction n with
 | zero=>intro p hn _;exact V_end (by rw[size_ex s a b hb];omega)
 | succ n ih =>
  intro p hn hV f
  by_cases hp:a+p < b
  ·obtain⟨hd,hV'⟩:=V_dec hV (by omega)
   have hs:=dec_size (s:=s) (i:=a+p) (by omega)
   have hw:a+p+(Utf8.decode s (a+p)).2≤b:=by
    apply Decidable.byContradiction
    intro hlt
    rcases hend with he | he
    ·omega
    ·have:=dec_cont (s:=s) (i:=a+p) (j:=b) (by omega) (by omega) (by omega)
     omega
   cases f with
   | zero=>rfl
   | succ f =>
    simp only[badFrom]
    rw[if_pos (by rw[size_ex s a b hb];omega),dec_ex hb hp hV hw,if_neg hd]
    refine ih _ (by omega) ?_ f
    rw[← Nat.add_assoc];exact hV'
  ·exact V_end (by rw[size_ex s a b hb];omega) f
theorem cuts_V {s:ByteArray} (hV:V s 0):∀ k,k≤s.size+1→((cuts s 10 k).1≤s.size→V s (cuts s 10 k).1)∧(∀ x ∈ (cuts s 10 k).2,V x 0):=by
 intro k
 induction k with
 | zero=>intro _;exact⟨fun _=>hV,by simp[cuts]⟩
 | succ k ih =>
  intro hk
  obtain⟨h1,h2⟩:=ih (by omega)
  have hcb:=cuts_bd s 10 k
  by_cases h:k=s.size∨bt s k=10
  ·rw[cuts_yes h]
   have hx:V (s.extract (cuts s 10 k).1 k) 0:=by
    refine V_ex (by omega) (by rcases h with h | h;exact Or.inl h;exact Or.inr (by omega)) _ 0 (Nat.le_refl _) ?_
    rw[Nat.add_zero];exact h1 (by omega)
   refine⟨fun hle=>?_,fun x hx'=>?_⟩
   ·simp only at hle
    have hb:bt s k=10:=by rcases h with h | h;exact absurd h (by omega);exact h
    have hVk:=V_at k 0 k (by omega) hV (by omega) (by omega) (by omega)
    obtain⟨_,h3⟩:=V_dec hVk (by omega)
    have hw:(Utf8.decode s k).2=1:=by rw[dec];unfold Lib.decodeN;rw[if_pos (by omega)]
    rw[hw] at h3;exact h3
   ·rcases List.mem_append.1 hx' with hx' | hx'
    ·exact h2 x hx'
    ·rw[List.mem_singleton.1 hx'];exact hx
  ·rw[cuts_no h];exact⟨h1,h2⟩
theorem split_V {s:ByteArray} (hV:V s 0):∀ x ∈ split s 10,V x 0:=(cuts_V hV (s.size+1) (Nat.le_refl _)).2
def spl (c:UInt8):List UInt8→List (List UInt8)
 | []=>[[]]
 | b :: l=>if b=c then [] :: spl c l else
  match spl c l with
  | []=>[[b]]
  | h :: t=>(b :: h) :: t
theorem index_cons_eq (c:UInt8) (l:List UInt8):Lib.index (c :: l) [c]=0:=by
 simp[Lib.index,List.isPrefixOf]
theorem index_cons_ne {b c:UInt8} (h:¬ b=c) (l:List UInt8):Lib.index (b :: l) [c]=if Lib.index l [c] == -1 then -1 else Lib.index l [c]+1:=by
 have hp:([c]:List UInt8).isPrefixOf (b :: l)=false:=by simp[List.isPrefixOf];exact fun e=>h e.symm
 rw[Lib.index,hp];rfl
theorem splitK_spl (c:UInt8):∀ l:List UInt8,Lib.splitK [c] 0 (Lib.count l [c]) l=spl c l:=by
 intro l
 induction l with
 | nil=>rfl
 | cons b l ih =>
  by_cases h:b=c
  ·subst h
   rw[Lib.count_cons_eq,Nat.add_comm 1]
   simp only[Lib.splitK,index_cons_eq,spl,if_true]
   rw[if_neg (by decide)]
   simpa using ih
  ·rw[Lib.count_cons_ne b c l h]
   simp only[spl,if_neg h]
   rw[← ih]
   cases hk:Lib.count l [c] with
   | zero=>rfl
   | succ k =>
    simp only[Lib.splitK,index_cons_ne h]
    have hge:=Lib.index_ge l [c]
    by_cases hi:Lib.index l [c] = -1
    ·rw[hi];rfl
    ·have e1:(Lib.index l [c] == -1)=false:=beq_eq_false_iff_ne.2 hi
     rw[e1]
     simp only[Bool.false_eq_true,if_false]
     have e2:(Lib.index l [c]+1 == -1)=false:=beq_eq_false_iff_ne.2 (by omega)
     rw[e2]
     simp only[Bool.false_eq_true,if_false]
     have e3:(Lib.index l [c]+1).toNat=(Lib.index l [c]).toNat+1:=by omega
     rw[e3]
     simp
theorem spl_ne (c:UInt8) (l:List UInt8):∃ h t,spl c l=h :: t:=by
 cases l with
 | nil=>exact⟨_,_,rfl⟩
 | cons b l =>
  simp only[spl]
  split
  ·exact⟨_,_,rfl⟩
  ·split <;> exact⟨_,_,rfl⟩
theorem ex_list (s:ByteArray) (a b:Nat):(s.extract a b).data.toList=(s.data.toList.drop a).take (b - a):=by
 rw[ByteArray.data_extract,Array.toList_extract]
def pend (c:UInt8) (p l:List UInt8):List (List UInt8):=match spl c l with
 | []=>[]
 | h :: t=>(p++h) :: t
theorem cuts_spl (s:ByteArray) (c:UInt8):∀ k,k≤s.size→(cuts s c.toNat k).2.map (·.data.toList)++pend c (s.extract (cuts s c.toNat k).1 k).data.toList (s.data.toList.drop k)=spl c s.data.toList:=by
 intro k
 induction k with
 | zero =>
  intro _
  obtain⟨h,t,e⟩:=spl_ne c s.data.toList
  simp only[cuts,pend,ex_list,List.map_nil,List.nil_append,List.drop_zero,Nat.sub_zero,List.take_zero,e]
 | succ k ih =>
  intro hk
  have hl:k < s.data.toList.length:=by rw[Array.length_toList];show k < s.size;omega
  have hi:=ih (by omega)
  have hcb:=cuts_bd s c.toNat k
  have hg:s.data.toList[k]=UInt8.ofNat (bt s k):=at_get s k (by omega)
  rw[List.drop_eq_getElem_cons hl] at hi
  by_cases h:k=s.size∨bt s k=c.toNat
  ·have hb:bt s k=c.toNat:=by rcases h with h | h;exact absurd h (by omega);exact h
   have hc:s.data.toList[k]=c:=by rw[hg,hb];simp
   rw[cuts_yes h]
   rw[hc] at hi
   obtain⟨h',t,e⟩:=spl_ne c (s.data.toList.drop (k+1))
   simp only[pend,spl,if_true,List.append_nil] at hi
   simp only[pend,e,ex_list,Nat.sub_self,List.take_zero,List.nil_append,List.map_append,List.map_cons,List.map_nil,List.append_assoc,List.cons_append]
   rw[e] at hi
   simpa [ex_list] using hi
  ·have hb:¬ s.data.toList[k]=c:=fun e=>by
    rw[hg] at e
    have:=congrArg UInt8.toNat e
    have hlt:=bt_lt s k
    simp at this
    exact h (Or.inr (by omega))
   rw[cuts_no h]
   obtain⟨h',t,e⟩:=spl_ne c (s.data.toList.drop (k+1))
   simp only[pend,spl,if_neg hb,e] at hi
   simp only[pend,e]
   rw[← hi]
   congr 2
   rw[ex_list,ex_list]
   have:k+1 - (cuts s c.toNat k).1=(k - (cuts s c.toNat k).1)+1:=by omega
   rw[this,List.take_succ_eq_append_getElem (by rw[List.length_drop];omega),List.append_assoc]
   congr 1
   simp only[List.getElem_drop,List.cons_append,List.nil_append]
   congr 2
   omega
theorem split_spl (s:ByteArray) (c:UInt8):(split s c.toNat).map (·.data.toList)=spl c s.data.toList:=by
 have h:=cuts_spl s c s.size (Nat.le_refl _)
 unfold split
 rw[cuts_yes (Or.inl rfl)]
 rw[List.drop_of_length_le (by rw[Array.length_toList];exact Nat.le_refl _)] at h
 simp only[pend,spl,List.append_nil] at h
 simp only[List.map_append,List.map_cons,List.map_nil]
 exact h
theorem list_inj:∀ (a b:List ByteArray),a.map (·.data.toList)=b.map (·.data.toList)→a=b:=by
 intro a
 induction a with
 | nil=>intro b h;cases b with
  | nil=>rfl
  | cons _ _=>simp at h
 | cons x a ih =>
  intro b h
  cases b with
  | nil=>simp at h
  | cons y b =>
   simp only[List.map_cons,List.cons.injEq] at h
   have e:x=y:=by apply ByteArray.ext;apply Array.ext';exact h.1
   rw[e,ih b h.2]
theorem split_lib (s:ByteArray):Lib.splitB ⟨#[10]⟩ 0 (Lib.countB s ⟨#[10]⟩) s=split s 10:=by
 apply list_inj
 rw[Lib.splitB_data]
 have:=split_spl s 10
 rw[show (10:UInt8).toNat=10 from rfl] at this
 rw[this]
 exact splitK_spl 10 s.data.toList
theorem split_count (s:ByteArray):Lib.countB s ⟨#[10]⟩ + 1=(split s 10).length:=by
 rw[← split_lib,Lib.splitB_all ⟨#[10]⟩ (by decide) 0 _ s rfl]
end Go.Proofs.YteflnddphpjahaaGreatDoor.Sp
namespace Go.Proofs.YteflnddphpjahaaGreatDoor
open Go.RowKit
theorem hde {p:Prop} (h:p):Hid p:=h
theorem uh {p:Prop} (h:Hid p):p:=h
theorem nlr {n:Nat}:n≤n:=Nat.le_refl n
theorem obl {w w':World} {B e size n:Nat} {v:Value} {xs:List Value} (h:w.ownsRow B e size v n xs) (hb:Below w.heap.size w w'):w'.ownsRow B e size v n xs:=by
 obtain⟨h1,h2⟩:=h
 refine⟨h1,?_⟩
 rcases h2 with h2 | ⟨g,cap,cur,hv,hB,hg,r⟩
 ·exact .inl h2
 ·refine .inr ⟨g,cap,cur,hv,hB,?_,r⟩
  rw[hb.block g (Array.getElem?_eq_some_iff.1 hg).1,hg]
theorem own_ne {w:World} {B B' e e' s s' n n':Nat} {v v':Value} {xs xs':List Value} (h:w.ownsRow B e s v n xs) (h':w.ownsRow B' e' s' v' n' xs') (he:e≠e'):v.ownBlock=none∨v.ownBlock≠v'.ownBlock:=by
 obtain⟨_,h1⟩:=h
 obtain⟨_,h2⟩:=h'
 rcases h1 with ⟨rfl,_⟩ | ⟨g,cap,cur,rfl,hB,hg,_⟩
 ·exact .inl rfl
 ·right
  rcases h2 with ⟨rfl,_⟩ | ⟨g',cap',cur',rfl,hB',hg',_⟩
  ·intro h;cases h
  ·intro h
   have hgg:g=g':=by simpa [Value.ownBlock] using h
   subst hgg
   rw[hg] at hg'
   injection hg' with hg'
   injection hg' with _ hg'
   exact he hg'
theorem rel_app {B e size n:Nat} {xs ys:List Value} {w wr w1:World} {v v':Value} (hB:B≤wr.heap.size)
  (hown:wr.ownsRow B e size v n xs) (hnx:Below B w wr) (hgrow:wr.grownBy w1 v.ownBlock):Below B w w1 :=
 hnx.grown hgrow hB (fun j hj=>by have:=(hown.lt j hj).1;omega)
theorem own_app {B B' e e' s s' n n':Nat} {xs ys:List Value} {wr w1:World} {v u:Value} (hv:wr.ownsRow B e s v n xs) (hu:wr.ownsRow B' e' s' u n' ys) (he:e'≠e) (hgrow:wr.grownBy w1 v.ownBlock):w1.ownsRow B' e' s' u n' ys :=
 hu.kept hgrow (own_ne hu hv he)
theorem more_yes (s:ByteArray) (i:Nat) (n:Int) (hn:n=(i:Int)) (w:World) (hs:s.size≤4000) (h:Sp.moreB s i=true) :
  Calls Tryz.prog 293 #[.string s,.int .i64 n] w fun e w'=>e = .returned (.tuple #[.int .i64 (Sp.moreV s i),.bool true])∧w'=w:=by
 subst hn
 rw[Sp.moreV_true h]
 obtain⟨h1,h2,h3⟩:=Sp.moreB_true h
 rw[← Sp.bt_of s i h1] at h2 h3 ⊢
 have h2':128≤((s[i].toNat:Nat):Int):=by omega
 have h3':((s[i].toNat:Nat):Int) < 192:=by omega
 clear h h2 h3
 go_enter Tryz.func293,Tryz.ntmps293
 go_wp2
 go_ret2
 exact⟨rfl,rfl⟩
theorem more_no (s:ByteArray) (i:Nat) (n:Int) (hn:n=(i:Int)) (w:World) (hs:s.size≤4000) (hi:i≤5000) (h:Sp.moreB s i=false) :
  Calls Tryz.prog 293 #[.string s,.int .i64 n] w fun e w'=>e = .returned (.tuple #[.int .i64 0,.bool false])∧w'=w:=by
 subst hn
 have hm:=Sp.moreB_false h
 clear h
 by_cases h1:i < s.size
 ·rw[← Sp.bt_of s i h1] at hm
  by_cases h2:((s[i].toNat:Nat):Int) < 128
  ·clear hm
   go_enter Tryz.func293,Tryz.ntmps293
   go_wp2
   go_ret2
   exact⟨rfl,rfl⟩
  ·have h3:192≤((s[i].toNat:Nat):Int):=by omega
   clear hm
   go_enter Tryz.func293,Tryz.ntmps293
   go_wp2
   go_ret2
   exact⟨rfl,rfl⟩
 ·have h1':s.size≤i:=by omega
  clear hm
  go_enter Tryz.func293,Tryz.ntmps293
  go_wp2
  go_ret2
  exact⟨rfl,rfl⟩
theorem least_2 (w:World):Calls Tryz.prog 294 #[.int .i64 2] w fun e w'=>e = .returned (.int .i64 128)∧w'=w:=by
 go_enter Tryz.func294,Tryz.ntmps294
 go_wp2
 go_ret
 exact⟨rfl,rfl⟩
theorem least_3 (w:World):Calls Tryz.prog 294 #[.int .i64 3] w fun e w'=>e = .returned (.int .i64 2048)∧w'=w:=by
 go_enter Tryz.func294,Tryz.ntmps294
 go_wp2
 go_ret
 exact⟨rfl,rfl⟩
theorem least_4 (w:World):Calls Tryz.prog 294 #[.int .i64 4] w fun e w'=>e = .returned (.int .i64 65536)∧w'=w:=by
 go_enter Tryz.func294,Tryz.ntmps294
 go_wp2
 go_ret
 exact⟨rfl,rfl⟩
theorem least_0 (w:World):Calls Tryz.prog 294 #[.int .i64 0] w fun e w'=>e = .returned (.int .i64 0)∧w'=w:=by
 go_enter Tryz.func294,Tryz.ntmps294
 go_wp2
 go_ret
 exact⟨rfl,rfl⟩
theorem rune_ascii (s:ByteArray) (i:Nat) (w:World) (hs:s.size≤4000) (hi:i < s.size) (h:Sp.bt s i < 128) :
  Calls Tryz.prog 236 #[.string s,.int .i64 i] w fun e w'=>e = .returned (.tuple #[.int .i64 (Sp.refRune s i).1,.int .i64 (Sp.refRune s i).2])∧w'=w:=by
 rw[Sp.ref_ascii h]
 rw[← Sp.bt_of s i hi] at h ⊢
 have h':((s[i].toNat:Nat):Int) < 128:=by omega
 clear h
 go_enter Tryz.func236,Tryz.ntmps236
 go_wp2
 go_ret2
 exact⟨rfl,rfl⟩
theorem rune_none1 (s:ByteArray) (i:Nat) (w:World) (hs:s.size≤4000) (hi:i < s.size) (h:128≤Sp.bt s i∧Sp.bt s i < 192) :
  Calls Tryz.prog 236 #[.string s,.int .i64 i] w fun e w'=>e = .returned (.tuple #[.int .i64 (Sp.refRune s i).1,.int .i64 (Sp.refRune s i).2])∧w'=w:=by
 rw[Sp.ref_none (Or.inl h)]
 rw[← Sp.bt_of s i hi] at h
 have h1:128≤((s[i].toNat:Nat):Int):=by omega
 have h2:((s[i].toNat:Nat):Int) < 192:=by omega
 clear h
 go_enter Tryz.func236,Tryz.ntmps236
 go_wp2
 go_loop [8,9] (fun r k=>r = .int .i64 0∧k = .int .i64 1) (fun _ _=>0)
 case atStart=>exact⟨rfl,rfl⟩
 case round =>
  obtain⟨rfl,rfl⟩:=hrel
  go_wp2_with (go_at_call 294;refine(least_0 _).mono ?_;rintro e w' ⟨rfl,rfl⟩)
  go_ret2
  exact⟨rfl,rfl⟩
theorem rune_none2 (s:ByteArray) (i:Nat) (w:World) (hs:s.size≤4000) (hi:i < s.size) (h:248≤Sp.bt s i) :
  Calls Tryz.prog 236 #[.string s,.int .i64 i] w fun e w'=>e = .returned (.tuple #[.int .i64 (Sp.refRune s i).1,.int .i64 (Sp.refRune s i).2])∧w'=w:=by
 rw[Sp.ref_none (Or.inr h)]
 rw[← Sp.bt_of s i hi] at h
 have h1:248≤((s[i].toNat:Nat):Int):=by omega
 have h2:((s[i].toNat:Nat):Int) < 256:=by have:=s[i].toNat_lt;omega
 clear h
 go_enter Tryz.func236,Tryz.ntmps236
 go_wp2
 go_loop [8,9] (fun r k=>r = .int .i64 0∧k = .int .i64 1) (fun _ _=>0)
 case atStart=>exact⟨rfl,rfl⟩
 case round =>
  obtain⟨rfl,rfl⟩:=hrel
  go_wp2_with (go_at_call 294;refine(least_0 _).mono ?_;rintro e w' ⟨rfl,rfl⟩)
  go_ret2
  exact⟨rfl,rfl⟩
theorem rune_2 (s:ByteArray) (i:Nat) (w:World) (hs:s.size≤4000) (hi:i < s.size) (h:192≤Sp.bt s i) (h':Sp.bt s i < 224) :
  Calls Tryz.prog 236 #[.string s,.int .i64 i] w fun e w'=>e = .returned (.tuple #[.int .i64 (Sp.refRune s i).1,.int .i64 (Sp.refRune s i).2])∧w'=w:=by
 have hs':=hs
 have eb:=Sp.bt_of s i hi
 have g1:192≤((Sp.bt s i:Nat):Int):=by omega
 have g2:((Sp.bt s i:Nat):Int) < 224:=by omega
 go_enter Tryz.func236,Tryz.ntmps236
 go_wp2
 go_loop [8,9] (fun r k=>∃ n:Nat,n≤1∧k = .int .i64 (n+1)∧r = .int .i64 (Sp.acc s i ((Sp.bt s i:Int) - 192) n)∧(∀ j,1≤j→j≤n→Sp.moreB s (i+j)=true)) (fun _ k=>2 - (intOf k).toNat)
 case atStart=>exact⟨0,by omega,rfl,rfl,fun j h1 h2=>by omega⟩
 case round =>
  obtain⟨n,hn,rfl,rfl,hm⟩:=hrel
  have hb:=Sp.acc_bd s i ((Sp.bt s i:Int) - 192) (by omega) (by omega) n (by omega)
  obtain rfl | rfl:n=0∨n=1:=by omega
  ·have hv:=Sp.moreV_bd s (i+1)
   cases hq:Sp.moreB s (i+1) with
   | true =>
    go_wp2_with (go_at_call 293;refine(more_yes s (i+1) _ (by omega) _ hs' hq).mono ?_;rintro e w' ⟨rfl,rfl⟩)
    go_round
    case rel=>exact⟨1,by omega,by go_num,rfl,fun j h1 h2=>by
     by_cases ej:j=1
     ·subst ej;exact hq
     ·exact hm j h1 (by omega)⟩
    case measure=>simp[intOf]
   | false =>
    go_wp2_with (go_at_call 293;refine(more_no s (i+1) _ (by omega) _ hs' (by omega) hq).mono ?_;rintro e w' ⟨rfl,rfl⟩)
    go_ret2
    exact⟨by rw[Sp.ref_bad2 hi h h' hq];rfl,rfl⟩
  ·have hf:=Sp.ref_2 hi h h' (hm 1 (by omega) (by omega))
   clear hm
   have HF:=hde hf
   clear hf
   by_cases c1:(Sp.acc s i ((Sp.bt s i:Int) - 192) 1) < 128
   ·go_wp2_with (go_at_call 294;refine(least_2 _).mono ?_;rintro e w' ⟨rfl,rfl⟩)
    go_ret2
    exact⟨by rw[uh HF,if_pos (Or.inl c1)];rfl,rfl⟩
   by_cases c2:(Sp.acc s i ((Sp.bt s i:Int) - 192) 1) > 1114111
   ·go_wp2_with (go_at_call 294;refine(least_2 _).mono ?_;rintro e w' ⟨rfl,rfl⟩)
    go_ret2
    exact⟨by rw[uh HF,if_pos (Or.inr (Or.inl c2))];rfl,rfl⟩
   by_cases c3:55296≤(Sp.acc s i ((Sp.bt s i:Int) - 192) 1)
   ·by_cases c4:(Sp.acc s i ((Sp.bt s i:Int) - 192) 1) < 57344
    ·go_wp2_with (go_at_call 294;refine(least_2 _).mono ?_;rintro e w' ⟨rfl,rfl⟩)
     go_ret2
     exact⟨by rw[uh HF,if_pos (Or.inr (Or.inr ⟨c3,c4⟩))];rfl,rfl⟩
    ·go_wp2_with (go_at_call 294;refine(least_2 _).mono ?_;rintro e w' ⟨rfl,rfl⟩)
     go_ret2
     exact⟨by rw[uh HF,if_neg (by omega)];rfl,rfl⟩
   ·go_wp2_with (go_at_call 294;refine(least_2 _).mono ?_;rintro e w' ⟨rfl,rfl⟩)
    go_ret2
    exact⟨by rw[uh HF,if_neg (by omega)];rfl,rfl⟩
theorem rune_3 (s:ByteArray) (i:Nat) (w:World) (hs:s.size≤4000) (hi:i < s.size) (h:224≤Sp.bt s i) (h':Sp.bt s i < 240) :
  Calls Tryz.prog 236 #[.string s,.int .i64 i] w fun e w'=>e = .returned (.tuple #[.int .i64 (Sp.refRune s i).1,.int .i64 (Sp.refRune s i).2])∧w'=w:=by
 have hs':=hs
 have eb:=Sp.bt_of s i hi
 have g1:224≤((Sp.bt s i:Nat):Int):=by omega
 have g2:((Sp.bt s i:Nat):Int) < 240:=by omega
 go_enter Tryz.func236,Tryz.ntmps236
 go_wp2
 go_loop [8,9] (fun r k=>∃ n:Nat,n≤2∧k = .int .i64 (n+1)∧r = .int .i64 (Sp.acc s i ((Sp.bt s i:Int) - 224) n)∧(∀ j,1≤j→j≤n→Sp.moreB s (i+j)=true)) (fun _ k=>3 - (intOf k).toNat)
 case atStart=>exact⟨0,by omega,rfl,rfl,fun j h1 h2=>by omega⟩
 case round =>
  obtain⟨n,hn,rfl,rfl,hm⟩:=hrel
  have hb:=Sp.acc_bd s i ((Sp.bt s i:Int) - 224) (by omega) (by omega) n (by omega)
  obtain rfl | rfl | rfl:n=0∨n=1∨n=2:=by omega
  ·have hv:=Sp.moreV_bd s (i+1)
   cases hq:Sp.moreB s (i+1) with
   | true =>
    go_wp2_with (go_at_call 293;refine(more_yes s (i+1) _ (by omega) _ hs' hq).mono ?_;rintro e w' ⟨rfl,rfl⟩)
    go_round
    case rel=>exact⟨1,by omega,by go_num,rfl,fun j h1 h2=>by
     by_cases ej:j=1
     ·subst ej;exact hq
     ·exact hm j h1 (by omega)⟩
    case measure=>simp[intOf]
   | false =>
    go_wp2_with (go_at_call 293;refine(more_no s (i+1) _ (by omega) _ hs' (by omega) hq).mono ?_;rintro e w' ⟨rfl,rfl⟩)
    go_ret2
    exact⟨by rw[Sp.ref_bad3 hi h h' (Or.inl hq)];rfl,rfl⟩
  ·have hv:=Sp.moreV_bd s (i+2)
   cases hq:Sp.moreB s (i+2) with
   | true =>
    go_wp2_with (go_at_call 293;refine(more_yes s (i+2) _ (by omega) _ hs' hq).mono ?_;rintro e w' ⟨rfl,rfl⟩)
    go_round
    case rel=>exact⟨2,by omega,by go_num,rfl,fun j h1 h2=>by
     by_cases ej:j=2
     ·subst ej;exact hq
     ·exact hm j h1 (by omega)⟩
    case measure=>simp[intOf]
   | false =>
    go_wp2_with (go_at_call 293;refine(more_no s (i+2) _ (by omega) _ hs' (by omega) hq).mono ?_;rintro e w' ⟨rfl,rfl⟩)
    go_ret2
    exact⟨by rw[Sp.ref_bad3 hi h h' (Or.inr hq)];rfl,rfl⟩
  ·have hf:=Sp.ref_3 hi h h' (hm 1 (by omega) (by omega)) (hm 2 (by omega) (by omega))
   clear hm
   have HF:=hde hf
   clear hf
   by_cases c1:(Sp.acc s i ((Sp.bt s i:Int) - 224) 2) < 2048
   ·go_wp2_with (go_at_call 294;refine(least_3 _).mono ?_;rintro e w' ⟨rfl,rfl⟩)
    go_ret2
    exact⟨by rw[uh HF,if_pos (Or.inl c1)];rfl,rfl⟩
   by_cases c2:(Sp.acc s i ((Sp.bt s i:Int) - 224) 2) > 1114111
   ·go_wp2_with (go_at_call 294;refine(least_3 _).mono ?_;rintro e w' ⟨rfl,rfl⟩)
    go_ret2
    exact⟨by rw[uh HF,if_pos (Or.inr (Or.inl c2))];rfl,rfl⟩
   by_cases c3:55296≤(Sp.acc s i ((Sp.bt s i:Int) - 224) 2)
   ·by_cases c4:(Sp.acc s i ((Sp.bt s i:Int) - 224) 2) < 57344
    ·go_wp2_with (go_at_call 294;refine(least_3 _).mono ?_;rintro e w' ⟨rfl,rfl⟩)
     go_ret2
     exact⟨by rw[uh HF,if_pos (Or.inr (Or.inr ⟨c3,c4⟩))];rfl,rfl⟩
    ·go_wp2_with (go_at_call 294;refine(least_3 _).mono ?_;rintro e w' ⟨rfl,rfl⟩)
     go_ret2
     exact⟨by rw[uh HF,if_neg (by omega)];rfl,rfl⟩
   ·go_wp2_with (go_at_call 294;refine(least_3 _).mono ?_;rintro e w' ⟨rfl,rfl⟩)
    go_ret2
    exact⟨by rw[uh HF,if_neg (by omega)];rfl,rfl⟩
theorem rune_4 (s:ByteArray) (i:Nat) (w:World) (hs:s.size≤4000) (hi:i < s.size) (h:240≤Sp.bt s i) (h':Sp.bt s i < 248) :
  Calls Tryz.prog 236 #[.string s,.int .i64 i] w fun e w'=>e = .returned (.tuple #[.int .i64 (Sp.refRune s i).1,.int .i64 (Sp.refRune s i).2])∧w'=w:=by
 have hs':=hs
 have eb:=Sp.bt_of s i hi
 have g1:240≤((Sp.bt s i:Nat):Int):=by omega
 have g2:((Sp.bt s i:Nat):Int) < 248:=by omega
 go_enter Tryz.func236,Tryz.ntmps236
 go_wp2
 go_loop [8,9] (fun r k=>∃ n:Nat,n≤3∧k = .int .i64 (n+1)∧r = .int .i64 (Sp.acc s i ((Sp.bt s i:Int) - 240) n)∧(∀ j,1≤j→j≤n→Sp.moreB s (i+j)=true)) (fun _ k=>4 - (intOf k).toNat)
 case atStart=>exact⟨0,by omega,rfl,rfl,fun j h1 h2=>by omega⟩
 case round =>
  obtain⟨n,hn,rfl,rfl,hm⟩:=hrel
  have hb:=Sp.acc_bd s i ((Sp.bt s i:Int) - 240) (by omega) (by omega) n (by omega)
  obtain rfl | rfl | rfl | rfl:n=0∨n=1∨n=2∨n=3:=by omega
  ·have hv:=Sp.moreV_bd s (i+1)
   cases hq:Sp.moreB s (i+1) with
   | true =>
    go_wp2_with (go_at_call 293;refine(more_yes s (i+1) _ (by omega) _ hs' hq).mono ?_;rintro e w' ⟨rfl,rfl⟩)
    go_round
    case rel=>exact⟨1,by omega,by go_num,rfl,fun j h1 h2=>by
     by_cases ej:j=1
     ·subst ej;exact hq
     ·exact hm j h1 (by omega)⟩
    case measure=>simp[intOf]
   | false =>
    go_wp2_with (go_at_call 293;refine(more_no s (i+1) _ (by omega) _ hs' (by omega) hq).mono ?_;rintro e w' ⟨rfl,rfl⟩)
    go_ret2
    exact⟨by rw[Sp.ref_bad4 hi h h' (Or.inl hq)];rfl,rfl⟩
  ·have hv:=Sp.moreV_bd s (i+2)
   cases hq:Sp.moreB s (i+2) with
   | true =>
    go_wp2_with (go_at_call 293;refine(more_yes s (i+2) _ (by omega) _ hs' hq).mono ?_;rintro e w' ⟨rfl,rfl⟩)
    go_round
    case rel=>exact⟨2,by omega,by go_num,rfl,fun j h1 h2=>by
     by_cases ej:j=2
     ·subst ej;exact hq
     ·exact hm j h1 (by omega)⟩
    case measure=>simp[intOf]
   | false =>
    go_wp2_with (go_at_call 293;refine(more_no s (i+2) _ (by omega) _ hs' (by omega) hq).mono ?_;rintro e w' ⟨rfl,rfl⟩)
    go_ret2
    exact⟨by rw[Sp.ref_bad4 hi h h' (Or.inr (Or.inl hq))];rfl,rfl⟩
  ·have hv:=Sp.moreV_bd s (i+3)
   cases hq:Sp.moreB s (i+3) with
   | true =>
    go_wp2_with (go_at_call 293;refine(more_yes s (i+3) _ (by omega) _ hs' hq).mono ?_;rintro e w' ⟨rfl,rfl⟩)
    go_round
    case rel=>exact⟨3,by omega,by go_num,rfl,fun j h1 h2=>by
     by_cases ej:j=3
     ·subst ej;exact hq
     ·exact hm j h1 (by omega)⟩
    case measure=>simp[intOf]
   | false =>
    go_wp2_with (go_at_call 293;refine(more_no s (i+3) _ (by omega) _ hs' (by omega) hq).mono ?_;rintro e w' ⟨rfl,rfl⟩)
    go_ret2
    exact⟨by rw[Sp.ref_bad4 hi h h' (Or.inr (Or.inr hq))];rfl,rfl⟩
  ·have hf:=Sp.ref_4 hi h h' (hm 1 (by omega) (by omega)) (hm 2 (by omega) (by omega)) (hm 3 (by omega) (by omega))
   clear hm
   have HF:=hde hf
   clear hf
   by_cases c1:(Sp.acc s i ((Sp.bt s i:Int) - 240) 3) < 65536
   ·go_wp2_with (go_at_call 294;refine(least_4 _).mono ?_;rintro e w' ⟨rfl,rfl⟩)
    go_ret2
    exact⟨by rw[uh HF,if_pos (Or.inl c1)];rfl,rfl⟩
   by_cases c2:(Sp.acc s i ((Sp.bt s i:Int) - 240) 3) > 1114111
   ·go_wp2_with (go_at_call 294;refine(least_4 _).mono ?_;rintro e w' ⟨rfl,rfl⟩)
    go_ret2
    exact⟨by rw[uh HF,if_pos (Or.inr (Or.inl c2))];rfl,rfl⟩
   by_cases c3:55296≤(Sp.acc s i ((Sp.bt s i:Int) - 240) 3)
   ·by_cases c4:(Sp.acc s i ((Sp.bt s i:Int) - 240) 3) < 57344
    ·go_wp2_with (go_at_call 294;refine(least_4 _).mono ?_;rintro e w' ⟨rfl,rfl⟩)
     go_ret2
     exact⟨by rw[uh HF,if_pos (Or.inr (Or.inr ⟨c3,c4⟩))];rfl,rfl⟩
    ·go_wp2_with (go_at_call 294;refine(least_4 _).mono ?_;rintro e w' ⟨rfl,rfl⟩)
     go_ret2
     exact⟨by rw[uh HF,if_neg (by omega)];rfl,rfl⟩
   ·exfalso;omega
theorem rune_any (s:ByteArray) (i:Nat) (n:Int) (hn:n=(i:Int)) (w:World) (hs:s.size≤4000) (hi:i < s.size) :
  Calls Tryz.prog 236 #[.string s,.int .i64 n] w fun e w'=>e = .returned (.tuple #[.int .i64 (Sp.refRune s i).1,.int .i64 (Sp.refRune s i).2])∧w'=w:=by
 subst hn
 have hb:=Sp.bt_lt s i
 by_cases h1:Sp.bt s i < 128
 ·exact rune_ascii s i w hs hi h1
 by_cases h2:Sp.bt s i < 192
 ·exact rune_none1 s i w hs hi ⟨by omega,h2⟩
 by_cases h3:Sp.bt s i < 224
 ·exact rune_2 s i w hs hi (by omega) h3
 by_cases h4:Sp.bt s i < 240
 ·exact rune_3 s i w hs hi (by omega) h4
 by_cases h5:Sp.bt s i < 248
 ·exact rune_4 s i w hs hi (by omega) h5
 ·exact rune_none2 s i w hs hi (by omega)
theorem toList_ne {s:ByteArray} {l:List UInt8} (h:¬ s.data.toList=l):(s.toList == l)=false:=by
 rw[beq_eq_false_iff_ne,ByteArray.toList_eq];exact h
theorem toList_is {s:ByteArray} {l:List UInt8} (h:s.data.toList=l):(s.toList == l)=true:=by
 rw[beq_iff_eq,ByteArray.toList_eq];exact h
theorem head_of {s:ByteArray} (h:0 < s.size):s.data.toList.head? = some s[0]:=by
 cases s with | mk d=>cases d with | mk l =>
 cases l with
 | nil=>exact absurd h (Nat.lt_irrefl 0)
 | cons a l=>rfl
def numOut (o:Option Int):Value := .tuple #[.int .i64 (o.getD 0),.bool o.isSome]
theorem number_pos_loop (s:ByteArray) (w:World) (hs:s.size≤4000) (hd:0 < s.size) (hneg:((s[0].toNat:Nat):Int)≠45) (hd0:((s[0].toNat:Nat):Int)≠48)
  (hz:(s.toList == [48])=false) :
  Calls Tryz.prog 238 #[.string s] w fun e w'=>e = .returned (numOut (Sp.dval s.data.toList))∧w'=w:=by
 have hd0':(((s[0].toNat:Nat):Int) == 48)=false:=beq_eq_false_iff_ne.2 hd0
 have hd1:(((s.size:Nat):Int) == 0)=false:=beq_eq_false_iff_ne.2 (by omega)
 have hneg':(((s[0].toNat:Nat):Int) == 45)=false:=beq_eq_false_iff_ne.2 hneg
 clear hneg
 go_enter Tryz.func238,Tryz.ntmps238
 go_wp2
 go_loop [5,6] (fun n i=>∃ (k:Nat) (v:Int),k≤s.size∧i = .int .i64 k∧n = .int .i64 v∧Hid (Sp.dval (s.data.toList.take k)=some v)) (fun _ i=>s.size - (intOf i).toNat)
 case atStart=>exact⟨0,0,Nat.zero_le _,rfl,rfl,rfl⟩
 case round =>
  obtain⟨k,v,hk,rfl,rfl,HV⟩:=hrel
  have hb:=Sp.dval_bd HV.out
  by_cases hlt:k < s.size
  ·have HS:Hid (Sp.dval (s.data.toList.take (k+1))=Sp.dstep (some v) s[k]):=by
    show _=_;rw[Sp.take_snoc s k hlt,Sp.dval_snoc,HV.out]
   by_cases c1:((s[k].toNat:Nat):Int) < 48
   ·have HN:Hid (Sp.dval s.data.toList=none):=Sp.dval_take_none (k:=k+1) (by rw[HS.out];exact if_pos (Or.inl c1))
    go_wp2
    go_ret2
    exact⟨by rw[HN.out];rfl,rfl⟩
   by_cases c2:57 < ((s[k].toNat:Nat):Int)
   ·have HN:Hid (Sp.dval s.data.toList=none):=Sp.dval_take_none (k:=k+1) (by rw[HS.out];exact if_pos (Or.inr (Or.inl c2)))
    go_wp2
    go_ret2
    exact⟨by rw[HN.out];rfl,rfl⟩
   by_cases c3:1000000000 < 10 * v+(((s[k].toNat:Nat):Int) - 48)
   ·have HN:Hid (Sp.dval s.data.toList=none):=Sp.dval_take_none (k:=k+1) (by rw[HS.out];exact if_pos (Or.inr (Or.inr c3)))
    go_wp2
    go_ret2
    exact⟨by rw[HN.out];rfl,rfl⟩
   ·go_wp2
    go_round
    case rel=>exact⟨k+1,_,by omega,by go_num,rfl,by show _=_;rw[HS.out];exact if_neg (by omega)⟩
    case measure=>simp[intOf];omega
  ·have HN:Hid (Sp.dval s.data.toList=some v):=by
    show _=_;rw[← Sp.take_all s k (by omega)];exact HV.out
   go_wp2
   go_ret2
   exact⟨by rw[HN.out];rfl,rfl⟩
theorem number_neg_loop (s d:ByteArray) (w:World) (hs:s.size≤4000) (hx:s.extract 1 s.size=d) (h0:0 < s.size) (hm:(((s[0].toNat:Nat):Int) == 45)=true) (hsz:d.size < s.size) (hd:0 < d.size) (hd0:((d[0].toNat:Nat):Int)≠48)
  (hz:(s.toList == [48])=false) :
  Calls Tryz.prog 238 #[.string s] w fun e w'=>e = .returned (numOut ((Sp.dval d.data.toList).map (fun n=>-n)))∧w'=w:=by
 have hd0':(((d[0].toNat:Nat):Int) == 48)=false:=beq_eq_false_iff_ne.2 hd0
 have hd1:(((d.size:Nat):Int) == 0)=false:=beq_eq_false_iff_ne.2 (by omega)
 go_enter Tryz.func238,Tryz.ntmps238
 go_wp2
 go_loop [5,6] (fun n i=>∃ (k:Nat) (v:Int),k≤d.size∧i = .int .i64 k∧n = .int .i64 v∧Hid (Sp.dval (d.data.toList.take k)=some v)) (fun _ i=>d.size - (intOf i).toNat)
 case atStart=>exact⟨0,0,Nat.zero_le _,rfl,rfl,rfl⟩
 case round =>
  obtain⟨k,v,hk,rfl,rfl,HV⟩:=hrel
  have hb:=Sp.dval_bd HV.out
  by_cases hlt:k < d.size
  ·have HS:Hid (Sp.dval (d.data.toList.take (k+1))=Sp.dstep (some v) d[k]):=by
    show _=_;rw[Sp.take_snoc d k hlt,Sp.dval_snoc,HV.out]
   by_cases c1:((d[k].toNat:Nat):Int) < 48
   ·have HN:Hid (Sp.dval d.data.toList=none):=Sp.dval_take_none (k:=k+1) (by rw[HS.out];exact if_pos (Or.inl c1))
    go_wp2
    go_ret2
    exact⟨by rw[HN.out];rfl,rfl⟩
   by_cases c2:57 < ((d[k].toNat:Nat):Int)
   ·have HN:Hid (Sp.dval d.data.toList=none):=Sp.dval_take_none (k:=k+1) (by rw[HS.out];exact if_pos (Or.inr (Or.inl c2)))
    go_wp2
    go_ret2
    exact⟨by rw[HN.out];rfl,rfl⟩
   by_cases c3:1000000000 < 10 * v+(((d[k].toNat:Nat):Int) - 48)
   ·have HN:Hid (Sp.dval d.data.toList=none):=Sp.dval_take_none (k:=k+1) (by rw[HS.out];exact if_pos (Or.inr (Or.inr c3)))
    go_wp2
    go_ret2
    exact⟨by rw[HN.out];rfl,rfl⟩
   ·go_wp2
    go_round
    case rel=>exact⟨k+1,_,by omega,by go_num,rfl,by show _=_;rw[HS.out];exact if_neg (by omega)⟩
    case measure=>simp[intOf];omega
  ·have HN:Hid (Sp.dval d.data.toList=some v):=by
    show _=_;rw[← Sp.take_all d k (by omega)];exact HV.out
   go_wp2
   go_ret2
   exact⟨by rw[HN.out];rfl,rfl⟩
theorem number_zero (s:ByteArray) (w:World) (hs:s.size≤4000) (h:s=⟨#[48]⟩) :
  Calls Tryz.prog 238 #[.string s] w fun e w'=>e = .returned (numOut (some 0))∧w'=w:=by
 subst h
 go_enter Tryz.func238,Tryz.ntmps238
 go_wp2
 go_ret2
 exact⟨rfl,rfl⟩
theorem number_empty (w:World) :
  Calls Tryz.prog 238 #[.string ByteArray.empty] w fun e w'=>e = .returned (numOut none)∧w'=w:=by
 have hz:(ByteArray.empty.toList == [48])=false:=toList_ne (by decide)
 go_enter Tryz.func238,Tryz.ntmps238
 go_wp2
 go_ret2
 exact⟨rfl,rfl⟩
theorem number_pos_no (s:ByteArray) (w:World) (hs:s.size≤4000) (hd:0 < s.size) (h48:(((s[0].toNat:Nat):Int) == 48)=true) (hneg:(((s[0].toNat:Nat):Int) == 45)=false)
  (hz:(s.toList == [48])=false) :
  Calls Tryz.prog 238 #[.string s] w fun e w'=>e = .returned (numOut none)∧w'=w:=by
 have hd1:(((s.size:Nat):Int) == 0)=false:=beq_eq_false_iff_ne.2 (by omega)
 go_enter Tryz.func238,Tryz.ntmps238
 go_wp2
 go_ret2
 exact⟨rfl,rfl⟩
theorem number_neg_empty (s d:ByteArray) (w:World) (hs:s.size≤4000) (hx:s.extract 1 s.size=d) (h0:0 < s.size) (hm:(((s[0].toNat:Nat):Int) == 45)=true) (hd:d.size=0)
  (hz:(s.toList == [48])=false) :
  Calls Tryz.prog 238 #[.string s] w fun e w'=>e = .returned (numOut none)∧w'=w:=by
 have hd1:(((d.size:Nat):Int) == 0)=true:=beq_iff_eq.2 (by omega)
 clear hd
 go_enter Tryz.func238,Tryz.ntmps238
 go_wp2
 go_ret2
 exact⟨rfl,rfl⟩
theorem number_neg_no (s d:ByteArray) (w:World) (hs:s.size≤4000) (hx:s.extract 1 s.size=d) (h0:0 < s.size) (hm:(((s[0].toNat:Nat):Int) == 45)=true) (hd:0 < d.size)
  (h48:(((d[0].toNat:Nat):Int) == 48)=true) (hz:(s.toList == [48])=false) :
  Calls Tryz.prog 238 #[.string s] w fun e w'=>e = .returned (numOut none)∧w'=w:=by
 have hd1:(((d.size:Nat):Int) == 0)=false:=beq_eq_false_iff_ne.2 (by omega)
 go_enter Tryz.func238,Tryz.ntmps238
 go_wp2
 go_ret2
 exact⟨rfl,rfl⟩
theorem tail_of {s:ByteArray}:(s.extract 1 s.size).data.toList=s.data.toList.tail:=by
 rw[ByteArray.data_extract,Array.toList_extract]
 show (s.data.toList.drop 1).take (s.data.size - 1)=_
 rw[List.take_of_length_le (by simp),List.drop_one]
theorem head_ne {s:ByteArray} (c:UInt8) (h:0 < s.size) (hd:((s[0].toNat:Nat):Int)≠(c.toNat:Int)):s.data.toList.head?≠some c:=by
 rw[head_of h];intro e;injection e with e;apply hd;rw[e]
theorem head_is {s:ByteArray} (c:UInt8) (h:0 < s.size) (hd:((s[0].toNat:Nat):Int)=(c.toNat:Int)):s.data.toList.head? = some c:=by
 rw[head_of h];congr 1;apply UInt8.toNat_inj.1;omega
theorem ne_nil {s:ByteArray} (h:0 < s.size):s.data.toList≠[]:=by
 intro e
 have h1:s.data.toList.length=0:=by rw[e];rfl
 rw[Array.length_toList] at h1
 have h2:s.data.size=s.size:=rfl
 omega
theorem nil_of {s:ByteArray} (h:¬ 0 < s.size):s.data.toList=[]:=by
 apply List.eq_nil_of_length_eq_zero
 rw[Array.length_toList]
 have h2:s.data.size=s.size:=rfl
 omega
theorem number_any (s:ByteArray) (w:World) (hs:s.size≤4000) :
  Calls Tryz.prog 238 #[.string s] w fun e w'=>e = .returned (numOut (Sp.number s.data.toList))∧w'=w:=by
 by_cases hz:s.data.toList=[48]
 ·have e:s=⟨#[48]⟩:=by apply ByteArray.ext;apply Array.ext';exact hz
  have:=number_zero s w hs e
  rw[show Sp.number s.data.toList=some 0 from if_pos hz];exact this
 have hz':=toList_ne hz
 by_cases h0:0 < s.size
 ·by_cases hm:((s[0].toNat:Nat):Int)=45
  ·have e1:Sp.number s.data.toList=(Sp.digits s.data.toList.tail).map (fun n=>-n):=by
    unfold Sp.number;rw[if_neg hz,if_pos (head_is 45 h0 hm)]
   rw[e1,← tail_of]
   obtain⟨d,hx⟩:∃ d,s.extract 1 s.size=d:=⟨_,rfl⟩
   rw[hx]
   have hsz:d.size < s.size:=by rw[← hx];simp;omega
   by_cases hd:0 < d.size
   ·by_cases h48:((d[0].toNat:Nat):Int)=48
    ·rw[show Sp.digits d.data.toList=none from if_pos (Or.inr (head_is 48 hd h48))]
     exact number_neg_no s d w hs hx h0 (beq_iff_eq.2 hm) hd (beq_iff_eq.2 h48) hz'
    ·have hne:=ne_nil hd
     rw[show Sp.digits d.data.toList=Sp.dval d.data.toList from if_neg (by rintro(e | e);exact hne e;exact head_ne 48 hd h48 e)]
     exact number_neg_loop s d w hs hx h0 (beq_iff_eq.2 hm) hsz hd h48 hz'
   ·have hd0:d.size=0:=by omega
    have hnil:=nil_of hd
    rw[show Sp.digits d.data.toList=none from if_pos (Or.inl hnil)]
    exact number_neg_empty s d w hs hx h0 (beq_iff_eq.2 hm) hd0 hz'
  ·have e1:Sp.number s.data.toList=Sp.digits s.data.toList:=by
    unfold Sp.number;rw[if_neg hz,if_neg (head_ne 45 h0 hm)]
   rw[e1]
   by_cases h48:((s[0].toNat:Nat):Int)=48
   ·rw[show Sp.digits s.data.toList=none from if_pos (Or.inr (head_is 48 h0 h48))]
    exact number_pos_no s w hs h0 (beq_iff_eq.2 h48) (beq_eq_false_iff_ne.2 hm) hz'
   ·have hne:=ne_nil h0
    rw[show Sp.digits s.data.toList=Sp.dval s.data.toList from if_neg (by rintro(e | e);exact hne e;exact head_ne 48 h0 h48 e)]
    exact number_pos_loop s w hs h0 hm h48 hz'
 ·have hnil:=nil_of h0
  have e:s=ByteArray.empty:=by apply ByteArray.ext;apply Array.ext';exact hnil
  subst e
  exact number_empty w
theorem broken_any (s:ByteArray) (w:World) (hs:s.size≤4000) :
  Calls Tryz.prog 155 #[.string s] w fun e w'=>e = .returned (.int .i64 (Sp.badInt (Sp.bad s)))∧w'=w:=by
 go_enter Tryz.func155,Tryz.ntmps155
 go_wp2
 go_loop [3] (fun i=>∃ (k f:Nat),k≤s.size∧s.size - k≤f∧i = .int .i64 k∧Hid (Sp.badFrom s f k=Sp.bad s)) (fun i=>s.size - (intOf i).toNat)
 case atStart=>exact⟨0,s.size,Nat.zero_le _,by omega,rfl,rfl⟩
 case round =>
  obtain⟨k,f,hk,hf,rfl,HB⟩:=hrel
  by_cases hlt:k < s.size
  ·obtain⟨f,rfl⟩:∃ g,f=g+1:=⟨f - 1,by omega⟩
   have hsz:=Sp.dec_size hlt
   by_cases hd:Utf8.decode s k=(65533,1)
   ·have HE:Hid (Sp.bad s=some k):=by
     show _=_;rw[← HB.out];simp only[Sp.badFrom];rw[if_pos hlt,if_pos hd]
    have HR:Hid (Sp.refRune s k=(0,0)):=Sp.ref_of_bad hd
    clear hd
    go_wp2_with (go_at_call 236;refine(rune_any s k _ rfl _ hs hlt).mono ?_;rintro e w' ⟨rfl,rfl⟩;rw[HR.out])
    go_ret
    exact⟨by rw[HE.out];rfl,rfl⟩
   ·have HE:Hid (Sp.badFrom s f (k+(Utf8.decode s k).2)=Sp.bad s):=by
     show _=_;rw[← HB.out];simp only[Sp.badFrom];rw[if_pos hlt,if_neg hd]
    have HR:Hid (Sp.refRune s k=(((Utf8.decode s k).1:Int),((Utf8.decode s k).2:Int))):=Sp.ref_of_good hd
    clear hd
    generalize Utf8.decode s k=D at hsz HE HR
    have hne:(((D.2:Nat):Int) == 0)=false:=beq_eq_false_iff_ne.2 (by omega)
    go_wp2_with (go_at_call 236;refine(rune_any s k _ rfl _ hs hlt).mono ?_;rintro e w' ⟨rfl,rfl⟩;rw[HR.out])
    go_round
    case rel=>exact⟨k+D.2,f,by omega,by omega,by go_num,HE⟩
    case measure=>simp[intOf];omega
  ·have HE:Hid (Sp.bad s=none):=by
    show _=_;rw[← HB.out]
    cases f with
    | zero=>rfl
    | succ f=>simp only[Sp.badFrom];rw[if_neg hlt]
   go_wp2
   go_ret
   exact⟨by rw[HE.out];rfl,rfl⟩
def nameOut (s:ByteArray) (i:Nat):Int × Int :=
 if i < s.size∧Sp.bt s i≠32∧Sp.bt s i≠62 then ((Sp.refRune s i).1,(i:Int)+(Sp.refRune s i).2) else (0,-1)
theorem ref_bd (s:ByteArray) (i:Nat) (hi:i < s.size):0≤(Sp.refRune s i).2∧(Sp.refRune s i).2≤4:=by
 unfold Sp.refRune;have:=Sp.dec_size hi
 split <;> simp only <;> omega
theorem name_any (s:ByteArray) (i:Nat) (n:Int) (hn:n=(i:Int)) (w:World) (hs:s.size≤4000) (hi:i≤5000) :
  Calls Tryz.prog 237 #[.string s,.int .i64 n] w fun e w'=>e = .returned (.tuple #[.int .i64 (nameOut s i).1,.int .i64 (nameOut s i).2])∧w'=w:=by
 subst hn
 by_cases hlt:i < s.size
 ·have eb:=Sp.bt_of s i hlt
  have hr:=ref_bd s i hlt
  by_cases h1:Sp.bt s i=32
  ·rw[show nameOut s i=(0,-1) from if_neg (by omega)]
   have g1:(((Sp.bt s i:Nat):Int) == 32)=true:=beq_iff_eq.2 (by omega)
   go_enter Tryz.func237,Tryz.ntmps237
   go_wp2
   go_ret2
   exact⟨rfl,rfl⟩
  ·have g1:(((Sp.bt s i:Nat):Int) == 32)=false:=beq_eq_false_iff_ne.2 (by omega)
   by_cases h2:Sp.bt s i=62
   ·rw[show nameOut s i=(0,-1) from if_neg (by omega)]
    have g2:(((Sp.bt s i:Nat):Int) == 62)=true:=beq_iff_eq.2 (by omega)
    go_enter Tryz.func237,Tryz.ntmps237
    go_wp2
    go_ret2
    exact⟨rfl,rfl⟩
   ·rw[show nameOut s i=((Sp.refRune s i).1,(i:Int)+(Sp.refRune s i).2) from if_pos ⟨hlt,h1,h2⟩]
    have g2:(((Sp.bt s i:Nat):Int) == 62)=false:=beq_eq_false_iff_ne.2 (by omega)
    generalize hR:Sp.refRune s i=R at hr ⊢
    have HR:=hde hR
    clear hR h1 h2
    go_enter Tryz.func237,Tryz.ntmps237
    go_wp2_with (go_at_call 236;refine(rune_any s i _ rfl _ hs hlt).mono ?_;rintro e w' ⟨rfl,rfl⟩;rw[uh HR])
    go_ret2
    exact⟨rfl,rfl⟩
 ·rw[show nameOut s i=(0,-1) from if_neg (by omega)]
  have h':s.size≤i:=by omega
  go_enter Tryz.func237,Tryz.ntmps237
  go_wp2
  go_ret2
  exact⟨rfl,rfl⟩
end Go.Proofs.YteflnddphpjahaaGreatDoor
