import Derived.Test.YteflnddphpjahaaGreatDoorProg
import Derived.Test.YteflnddphpjahaaGreatDoorCnPlAtoCom
import Derived.Test.YteflnddphpjahaaGreatDoorCnRefBtoRefC
import Derived.WalkKit
import Derived.Outline
import Derived.Test.YteflnddphpjahaaGreatDoorCnShelf
import Derived.Deep.DeepMust
set_option linter.unusedVariables false
set_option linter.unusedSimpArgs false
set_option maxRecDepth 100000
set_option maxHeartbeats 16000000
namespace Go.Proofs.YteflnddphpjahaaGreatDoor
open Go.RowKit
theorem name_none (s:ByteArray) (i:Nat) (n:Int) (hn:n=(i:Int)) (w:World) (hs:s.size≤4000) (hi:i≤5000) (h:Sp.nm s i=none) :
  Calls Tryz.prog 237 #[.string s,.int .i64 n] w fun e w'=>e = .returned (.tuple #[.int .i64 0,.int .i64 (-1)])∧w'=w:=by
 have e:nameOut s i=(0,-1):=by
  unfold Sp.nm at h;unfold nameOut
  split at h
  ·cases h
  ·rename_i hc;rw[if_neg hc]
 have:=name_any s i n hn w hs hi
 rw[e] at this;exact this
theorem name_some (s:ByteArray) (i:Nat) (n:Int) (hn:n=(i:Int)) (w:World) (hs:s.size≤4000) (r:Int) (j:Nat) (h:Sp.nm s i=some (r,j)) :
  Calls Tryz.prog 237 #[.string s,.int .i64 n] w fun e w'=>e = .returned (.tuple #[.int .i64 r,.int .i64 j])∧w'=w:=by
 have hb:=Sp.nm_bd h
 have e:nameOut s i=(r,(j:Int)):=by
  unfold Sp.nm at h;unfold nameOut
  split at h
  ·rename_i hc
   rw[if_pos hc]
   injection h with h
   have h1:=congrArg Prod.fst h
   have h2:=congrArg Prod.snd h
   simp only at h1 h2
   have hd:=ref_bd s i hc.1
   rw[h1];congr 1;omega
  ·cases h
 have:=name_any s i n hn w hs (by omega)
 rw[e] at this;exact this
theorem numOut_none:numOut none = .tuple #[.int .i64 0,.bool false]:=rfl
theorem numOut_some (v:Int):numOut (some v) = .tuple #[.int .i64 v,.bool true]:=rfl
def lnVal (l:Sp.Ln):Value := .agg #[.bool l.edge,.int .i64 l.frm,.int .i64 l.to,.int .i64 l.n]
def ReadPost (s:ByteArray) (w:World) (e:Ending) (w':World):Prop :=
 ∃ l,e = .returned (.tuple #[lnVal l,.bool (Sp.lineOf s).isSome])∧(∀ m,Sp.lineOf s=some m→l=m)∧Below w.heap.size w w'
theorem read_no {s:ByteArray} {w w':World} (h:Sp.lineOf s=none) (l:Sp.Ln) (hb:Below w.heap.size w w'):ReadPost s w (.returned (.tuple #[lnVal l,.bool false])) w':=by
 refine⟨l,?_,?_,hb⟩
 ·rw[h];rfl
 ·intro m hm;rw[h] at hm;cases hm
theorem read_yes {s:ByteArray} {w w':World} (l:Sp.Ln) (h:Sp.lineOf s=some l) (hb:Below w.heap.size w w'):ReadPost s w (.returned (.tuple #[lnVal l,.bool true])) w':=by
 refine⟨l,?_,?_,hb⟩
 ·rw[h];rfl
 ·intro m hm;rw[h] at hm;injection hm
theorem read_1 (s:ByteArray) (w:World) (hs:s.size≤4000) (h0:Sp.nm s 0=none) :
  Calls Tryz.prog 156 #[.string s] w (ReadPost s w):=by
 have HL:Hid (Sp.lineOf s=none):=by show _=_;unfold Sp.lineOf;rw[h0]
 have H0:=hde h0
 clear h0
 go_enter Tryz.func156,Tryz.ntmps156
 go_wp2_with fail
 refine(name_none s (0) _ (by omega) _ hs (by omega) (uh H0)).mono ?_
 rintro e w' ⟨rfl,rfl⟩
 go_wp2
 exact bodyPost_ret (v := .tuple #[lnVal ⟨false,0,0,0⟩,.bool false]) (by simp[results,Tryz.results156,go_sem,lnVal]) rfl (read_no (uh HL) ⟨false,0,0,0⟩ (((Below.refl _ _).alloc nlr _).alloc (by simp) _))
theorem read_2_a (s:ByteArray) (w:World) (hs:s.size≤4000) (a:Int) (j:Nat) (h0:Sp.nm s 0=some (a,j)) (hne:¬ (j < s.size∧Sp.bt s j=62)) (hend:¬ j < s.size) :
  Calls Tryz.prog 156 #[.string s] w (ReadPost s w):=by
 have hjb:=Sp.nm_bd h0
 have HL:Hid (Sp.lineOf s=none):=by show _=_;unfold Sp.lineOf;rw[h0];simp only;rw[if_neg hne];exact if_neg (fun h=>hend h.1)
 have H0:=hde h0
 clear h0
 go_enter Tryz.func156,Tryz.ntmps156
 go_wp2_with fail
 refine(name_some s (0) _ (by omega) _ hs a j (uh H0)).mono ?_
 rintro e w' ⟨rfl,rfl⟩
 go_wp2
 exact bodyPost_ret (v := .tuple #[lnVal ⟨false,a,0,0⟩,.bool false]) (by simp[results,Tryz.results156,go_sem,lnVal]) rfl (read_no (uh HL) ⟨false,a,0,0⟩ (((Below.refl _ _).alloc nlr _).alloc (by simp) _))
theorem read_2_b (s:ByteArray) (w:World) (hs:s.size≤4000) (a:Int) (j:Nat) (h0:Sp.nm s 0=some (a,j)) (hne:¬ (j < s.size∧Sp.bt s j=62)) (hlt:j < s.size) (hb:¬ Sp.bt s j=32) :
  Calls Tryz.prog 156 #[.string s] w (ReadPost s w):=by
 have hjb:=Sp.nm_bd h0
 have HL:Hid (Sp.lineOf s=none):=by show _=_;unfold Sp.lineOf;rw[h0];simp only;rw[if_neg hne];exact if_neg (fun h=>hb h.2)
 have ebj:=Sp.bt_of s j hlt
 have gb:(((Sp.bt s j:Nat):Int) == 32)=false:=beq_eq_false_iff_ne.2 (by omega)
 have gb':(((Sp.bt s j:Nat):Int) != 32)=true:=by rw[bne_iff_ne];omega
 have H0:=hde h0
 clear h0
 go_enter Tryz.func156,Tryz.ntmps156
 go_wp2_with fail
 refine(name_some s (0) _ (by omega) _ hs a j (uh H0)).mono ?_
 rintro e w' ⟨rfl,rfl⟩
 go_wp2
 exact bodyPost_ret (v := .tuple #[lnVal ⟨false,a,0,0⟩,.bool false]) (by simp[results,Tryz.results156,go_sem,lnVal]) rfl (read_no (uh HL) ⟨false,a,0,0⟩ (((Below.refl _ _).alloc nlr _).alloc (by simp) _))
theorem read_2_c (s:ByteArray) (w:World) (hs:s.size≤4000) (a:Int) (j:Nat) (h0:Sp.nm s 0=some (a,j)) (hne:¬ (j < s.size∧Sp.bt s j=62)) (hlt:j < s.size) (hb:Sp.bt s j=32) (hn:Sp.number (s.extract (j+1) s.size).data.toList=none) :
  Calls Tryz.prog 156 #[.string s] w (ReadPost s w):=by
 have hjb:=Sp.nm_bd h0
 have HL:Hid (Sp.lineOf s=none):=by show _=_;unfold Sp.lineOf;rw[h0];simp only;rw[if_neg hne];exact(if_pos ⟨hlt,hb⟩).trans (by rw[hn];rfl)
 obtain⟨d,hx⟩:∃ d,s.extract (j+1) s.size=d:=⟨_,rfl⟩
 have hds:d.size≤4000:=by rw[← hx];simp;omega
 rw[hx] at hn
 have HN:=hde hn
 clear hn
 have ebj:=Sp.bt_of s j hlt
 have gb:(((Sp.bt s j:Nat):Int) == 32)=true:=beq_iff_eq.2 (by omega)
 have gb':(((Sp.bt s j:Nat):Int) != 32)=false:=by simp only[bne,gb];rfl
 have H0:=hde h0
 clear h0
 go_enter Tryz.func156,Tryz.ntmps156
 go_wp2_with fail
 refine(name_some s (0) _ (by omega) _ hs a j (uh H0)).mono ?_
 rintro e w' ⟨rfl,rfl⟩
 go_wp2_with fail
 refine(number_any d _ (by omega)).mono ?_
 rintro e w' ⟨rfl,rfl⟩
 rw[uh HN,numOut_none]
 go_wp2
 exact bodyPost_ret (v := .tuple #[lnVal ⟨false,a,0,0⟩,.bool false]) (by simp[results,Tryz.results156,go_sem,lnVal]) rfl (read_no (uh HL) ⟨false,a,0,0⟩ (((Below.refl _ _).alloc nlr _).alloc (by simp) _))
theorem read_2_d (s:ByteArray) (w:World) (hs:s.size≤4000) (a:Int) (j:Nat) (h0:Sp.nm s 0=some (a,j)) (hne:¬ (j < s.size∧Sp.bt s j=62)) (hlt:j < s.size) (hb:Sp.bt s j=32) (v:Int) (hn:Sp.number (s.extract (j+1) s.size).data.toList=some v) :
  Calls Tryz.prog 156 #[.string s] w (ReadPost s w):=by
 have hjb:=Sp.nm_bd h0
 have HL:Hid (Sp.lineOf s=some ⟨false,a,0,v⟩):=by show _=_;unfold Sp.lineOf;rw[h0];simp only;rw[if_neg hne];exact(if_pos ⟨hlt,hb⟩).trans (by rw[hn];rfl)
 obtain⟨d,hx⟩:∃ d,s.extract (j+1) s.size=d:=⟨_,rfl⟩
 have hds:d.size≤4000:=by rw[← hx];simp;omega
 rw[hx] at hn
 have HN:=hde hn
 clear hn
 have ebj:=Sp.bt_of s j hlt
 have gb:(((Sp.bt s j:Nat):Int) == 32)=true:=beq_iff_eq.2 (by omega)
 have gb':(((Sp.bt s j:Nat):Int) != 32)=false:=by simp only[bne,gb];rfl
 have H0:=hde h0
 clear h0
 go_enter Tryz.func156,Tryz.ntmps156
 go_wp2_with fail
 refine(name_some s (0) _ (by omega) _ hs a j (uh H0)).mono ?_
 rintro e w' ⟨rfl,rfl⟩
 go_wp2_with fail
 refine(number_any d _ (by omega)).mono ?_
 rintro e w' ⟨rfl,rfl⟩
 rw[uh HN,numOut_some]
 go_wp2
 exact bodyPost_ret (v := .tuple #[lnVal ⟨false,a,0,v⟩,.bool true]) (by simp[results,Tryz.results156,go_sem,lnVal]) rfl (read_yes ⟨false,a,0,v⟩ (uh HL) (((Below.refl _ _).alloc nlr _).alloc (by simp) _))
theorem read_3 (s:ByteArray) (w:World) (hs:s.size≤4000) (a:Int) (j:Nat) (h0:Sp.nm s 0=some (a,j)) (hjl:j < s.size) (he2:Sp.bt s j=62) (h1:Sp.nm s (j+1)=none) :
  Calls Tryz.prog 156 #[.string s] w (ReadPost s w):=by
 have he:j < s.size∧Sp.bt s j=62:=⟨hjl,he2⟩
 have hjb:=Sp.nm_bd h0
 have HL:Hid (Sp.lineOf s=none):=by show _=_;unfold Sp.lineOf;rw[h0];simp only;rw[if_pos he];rw[h1]
 have ej:=Sp.bt_of s j hjl
 have ge:(((Sp.bt s j:Nat):Int) == 62)=true:=beq_iff_eq.2 (by omega)
 clear he he2
 have H0:=hde h0
 clear h0
 have H1:=hde h1
 clear h1
 go_enter Tryz.func156,Tryz.ntmps156
 go_wp2_with fail
 refine(name_some s (0) _ (by omega) _ hs a j (uh H0)).mono ?_
 rintro e w' ⟨rfl,rfl⟩
 go_wp2_with fail
 refine(name_none s (j+1) _ (by omega) _ hs (by omega) (uh H1)).mono ?_
 rintro e w' ⟨rfl,rfl⟩
 go_wp2
 exact bodyPost_ret (v := .tuple #[lnVal ⟨false,a,0,0⟩,.bool false]) (by simp[results,Tryz.results156,go_sem,lnVal]) rfl (read_no (uh HL) ⟨false,a,0,0⟩ (((Below.refl _ _).alloc nlr _).alloc (by simp) _))
theorem read_4_a (s:ByteArray) (w:World) (hs:s.size≤4000) (a:Int) (j:Nat) (h0:Sp.nm s 0=some (a,j)) (hjl:j < s.size) (he2:Sp.bt s j=62) (b:Int) (k:Nat) (h1:Sp.nm s (j+1)=some (b,k)) (hend:¬ k < s.size) :
  Calls Tryz.prog 156 #[.string s] w (ReadPost s w):=by
 have hjb:=Sp.nm_bd h0
 have hkb:=Sp.nm_bd h1
 have he:j < s.size∧Sp.bt s j=62:=⟨hjl,he2⟩
 have HL:Hid (Sp.lineOf s=none):=by show _=_;unfold Sp.lineOf;rw[h0];simp only;rw[if_pos he];rw[h1];simp only;exact if_neg (fun h=>hend h.1)
 have ej:=Sp.bt_of s j hjl
 have ge:(((Sp.bt s j:Nat):Int) == 62)=true:=beq_iff_eq.2 (by omega)
 clear he he2
 have H0:=hde h0
 clear h0
 have H1:=hde h1
 clear h1
 go_enter Tryz.func156,Tryz.ntmps156
 go_wp2_with fail
 refine(name_some s (0) _ (by omega) _ hs a j (uh H0)).mono ?_
 rintro e w' ⟨rfl,rfl⟩
 go_wp2_with fail
 refine(name_some s (j+1) _ (by omega) _ hs b k (uh H1)).mono ?_
 rintro e w' ⟨rfl,rfl⟩
 go_wp2
 exact bodyPost_ret (v := .tuple #[lnVal ⟨true,a,b,0⟩,.bool false]) (by simp[results,Tryz.results156,go_sem,lnVal]) rfl (read_no (uh HL) ⟨true,a,b,0⟩ (((Below.refl _ _).alloc nlr _).alloc (by simp) _))
theorem read_4_b (s:ByteArray) (w:World) (hs:s.size≤4000) (a:Int) (j:Nat) (h0:Sp.nm s 0=some (a,j)) (hjl:j < s.size) (he2:Sp.bt s j=62) (b:Int) (k:Nat) (h1:Sp.nm s (j+1)=some (b,k)) (hlt:k < s.size) (hb:¬ Sp.bt s k=32) :
  Calls Tryz.prog 156 #[.string s] w (ReadPost s w):=by
 have hjb:=Sp.nm_bd h0
 have hkb:=Sp.nm_bd h1
 have he:j < s.size∧Sp.bt s j=62:=⟨hjl,he2⟩
 have HL:Hid (Sp.lineOf s=none):=by show _=_;unfold Sp.lineOf;rw[h0];simp only;rw[if_pos he];rw[h1];simp only;exact if_neg (fun h=>hb h.2)
 have ej:=Sp.bt_of s j hjl
 have ge:(((Sp.bt s j:Nat):Int) == 62)=true:=beq_iff_eq.2 (by omega)
 clear he he2
 have ebj:=Sp.bt_of s k hlt
 have gb:(((Sp.bt s k:Nat):Int) == 32)=false:=beq_eq_false_iff_ne.2 (by omega)
 have gb':(((Sp.bt s k:Nat):Int) != 32)=true:=by rw[bne_iff_ne];omega
 have H0:=hde h0
 clear h0
 have H1:=hde h1
 clear h1
 go_enter Tryz.func156,Tryz.ntmps156
 go_wp2_with fail
 refine(name_some s (0) _ (by omega) _ hs a j (uh H0)).mono ?_
 rintro e w' ⟨rfl,rfl⟩
 go_wp2_with fail
 refine(name_some s (j+1) _ (by omega) _ hs b k (uh H1)).mono ?_
 rintro e w' ⟨rfl,rfl⟩
 go_wp2
 exact bodyPost_ret (v := .tuple #[lnVal ⟨true,a,b,0⟩,.bool false]) (by simp[results,Tryz.results156,go_sem,lnVal]) rfl (read_no (uh HL) ⟨true,a,b,0⟩ (((Below.refl _ _).alloc nlr _).alloc (by simp) _))
theorem read_4_c (s:ByteArray) (w:World) (hs:s.size≤4000) (a:Int) (j:Nat) (h0:Sp.nm s 0=some (a,j)) (hjl:j < s.size) (he2:Sp.bt s j=62) (b:Int) (k:Nat) (h1:Sp.nm s (j+1)=some (b,k)) (hlt:k < s.size) (hb:Sp.bt s k=32) (hn:Sp.number (s.extract (k+1) s.size).data.toList=none) :
  Calls Tryz.prog 156 #[.string s] w (ReadPost s w):=by
 have hjb:=Sp.nm_bd h0
 have hkb:=Sp.nm_bd h1
 have he:j < s.size∧Sp.bt s j=62:=⟨hjl,he2⟩
 have HL:Hid (Sp.lineOf s=none):=by show _=_;unfold Sp.lineOf;rw[h0];simp only;rw[if_pos he];rw[h1];simp only;exact(if_pos ⟨hlt,hb⟩).trans (by rw[hn];rfl)
 obtain⟨d,hx⟩:∃ d,s.extract (k+1) s.size=d:=⟨_,rfl⟩
 have hds:d.size≤4000:=by rw[← hx];simp;omega
 rw[hx] at hn
 have HN:=hde hn
 clear hn
 have ej:=Sp.bt_of s j hjl
 have ge:(((Sp.bt s j:Nat):Int) == 62)=true:=beq_iff_eq.2 (by omega)
 clear he he2
 have ebj:=Sp.bt_of s k hlt
 have gb:(((Sp.bt s k:Nat):Int) == 32)=true:=beq_iff_eq.2 (by omega)
 have gb':(((Sp.bt s k:Nat):Int) != 32)=false:=by simp only[bne,gb];rfl
 have H0:=hde h0
 clear h0
 have H1:=hde h1
 clear h1
 go_enter Tryz.func156,Tryz.ntmps156
 go_wp2_with fail
 refine(name_some s (0) _ (by omega) _ hs a j (uh H0)).mono ?_
 rintro e w' ⟨rfl,rfl⟩
 go_wp2_with fail
 refine(name_some s (j+1) _ (by omega) _ hs b k (uh H1)).mono ?_
 rintro e w' ⟨rfl,rfl⟩
 go_wp2_with fail
 refine(number_any d _ (by omega)).mono ?_
 rintro e w' ⟨rfl,rfl⟩
 rw[uh HN,numOut_none]
 go_wp2
 exact bodyPost_ret (v := .tuple #[lnVal ⟨true,a,b,0⟩,.bool false]) (by simp[results,Tryz.results156,go_sem,lnVal]) rfl (read_no (uh HL) ⟨true,a,b,0⟩ (((Below.refl _ _).alloc nlr _).alloc (by simp) _))
theorem read_4_d (s:ByteArray) (w:World) (hs:s.size≤4000) (a:Int) (j:Nat) (h0:Sp.nm s 0=some (a,j)) (hjl:j < s.size) (he2:Sp.bt s j=62) (b:Int) (k:Nat) (h1:Sp.nm s (j+1)=some (b,k)) (hlt:k < s.size) (hb:Sp.bt s k=32) (v:Int) (hn:Sp.number (s.extract (k+1) s.size).data.toList=some v) :
  Calls Tryz.prog 156 #[.string s] w (ReadPost s w):=by
 have hjb:=Sp.nm_bd h0
 have hkb:=Sp.nm_bd h1
 have he:j < s.size∧Sp.bt s j=62:=⟨hjl,he2⟩
 have HL:Hid (Sp.lineOf s=some ⟨true,a,b,v⟩):=by show _=_;unfold Sp.lineOf;rw[h0];simp only;rw[if_pos he];rw[h1];simp only;exact(if_pos ⟨hlt,hb⟩).trans (by rw[hn];rfl)
 obtain⟨d,hx⟩:∃ d,s.extract (k+1) s.size=d:=⟨_,rfl⟩
 have hds:d.size≤4000:=by rw[← hx];simp;omega
 rw[hx] at hn
 have HN:=hde hn
 clear hn
 have ej:=Sp.bt_of s j hjl
 have ge:(((Sp.bt s j:Nat):Int) == 62)=true:=beq_iff_eq.2 (by omega)
 clear he he2
 have ebj:=Sp.bt_of s k hlt
 have gb:(((Sp.bt s k:Nat):Int) == 32)=true:=beq_iff_eq.2 (by omega)
 have gb':(((Sp.bt s k:Nat):Int) != 32)=false:=by simp only[bne,gb];rfl
 have H0:=hde h0
 clear h0
 have H1:=hde h1
 clear h1
 go_enter Tryz.func156,Tryz.ntmps156
 go_wp2_with fail
 refine(name_some s (0) _ (by omega) _ hs a j (uh H0)).mono ?_
 rintro e w' ⟨rfl,rfl⟩
 go_wp2_with fail
 refine(name_some s (j+1) _ (by omega) _ hs b k (uh H1)).mono ?_
 rintro e w' ⟨rfl,rfl⟩
 go_wp2_with fail
 refine(number_any d _ (by omega)).mono ?_
 rintro e w' ⟨rfl,rfl⟩
 rw[uh HN,numOut_some]
 go_wp2
 exact bodyPost_ret (v := .tuple #[lnVal ⟨true,a,b,v⟩,.bool true]) (by simp[results,Tryz.results156,go_sem,lnVal]) rfl (read_yes ⟨true,a,b,v⟩ (uh HL) (((Below.refl _ _).alloc nlr _).alloc (by simp) _))
theorem read_any (s:ByteArray) (w:World) (hs:s.size≤4000):Calls Tryz.prog 156 #[.string s] w (ReadPost s w):=by
 cases h0:Sp.nm s 0 with
 | none=>exact read_1 s w hs h0
 | some p =>
  obtain⟨a,j⟩:=p
  by_cases he:j < s.size∧Sp.bt s j=62
  ·cases h1:Sp.nm s (j+1) with
   | none=>exact read_3 s w hs a j h0 he.1 he.2 h1
   | some q =>
    obtain⟨b,k⟩:=q
    by_cases hk:k < s.size
    ·by_cases hb:Sp.bt s k=32
     ·cases hn:Sp.number (s.extract (k+1) s.size).data.toList with
      | none=>exact read_4_c s w hs a j h0 he.1 he.2 b k h1 hk hb hn
      | some v=>exact read_4_d s w hs a j h0 he.1 he.2 b k h1 hk hb v hn
     ·exact read_4_b s w hs a j h0 he.1 he.2 b k h1 hk hb
    ·exact read_4_a s w hs a j h0 he.1 he.2 b k h1 hk
  ·by_cases hk:j < s.size
   ·by_cases hb:Sp.bt s j=32
    ·cases hn:Sp.number (s.extract (j+1) s.size).data.toList with
     | none=>exact read_2_c s w hs a j h0 he hk hb hn
     | some v=>exact read_2_d s w hs a j h0 he hk hb v hn
    ·exact read_2_b s w hs a j h0 he hk hb
   ·exact read_2_a s w hs a j h0 he hk
theorem Tryz.info_string:(Tryz.prog.info? 9).map (fun i=>(i.zero,i.size,i.bytes))=some (some (.string ByteArray.empty),1,16):=by kernel_rfl
theorem split_app {B e n:Nat} {xs:List Value} {x:Value} {w wr w1:World} {v v':Value} {o:Obj} (hB:B≤wr.heap.size)
  (hown:wr.ownsRow B e 1 v xs.length xs) (hnx:Below B w wr) (hown':w1.ownsRow B e 1 v' (n+1) (xs++[x])) (hn:n=xs.length) (hgrow:(wr.alloc o).grownBy w1 v.ownBlock) :
  w1.ownsRow B e 1 v' (xs++[x]).length (xs++[x])∧Below B w w1 :=
 ⟨by subst hn;simpa using hown',(hnx.alloc hB o).grown hgrow (by simp;omega) (fun j hj=>by have:=(hown.lt j hj).1;omega)⟩
theorem split_any (s:ByteArray) (c:Nat) (n:Int) (hn:n=(c:Int)) (hc:c < 256) (w:World) (hs:s.size≤4000) :
  Calls Tryz.prog 106 #[.string s,.int .u8 n] w fun e w'=>∃ v,e = .returned v∧w'.ownsRow w.heap.size 9 1 v (Sp.split s c).length ((Sp.split s c).map Value.string)∧Below w.heap.size w w':=by
 subst hn
 obtain⟨i0,hi,hz0,hz1,hz2⟩:=info_parts Tryz.info_string
 generalize hB:w.heap.size=B
 have HB:=hde hB
 clear hB
 go_enter Tryz.func106,Tryz.ntmps106
 go_wp2
 go_loopw [5,6,7] (fun v f i wr=>∃ k:Nat,k≤s.size+1∧i = .int .i64 k∧f = .int .i64 (Sp.cuts s c k).1∧wr.ownsRow B 9 1 v ((Sp.cuts s c k).2.map Value.string).length ((Sp.cuts s c k).2.map Value.string)∧Below B w wr)
  (fun _ _ i _=>s.size+1 - (intOf i).toNat)
 case atStart=>exact⟨0,Nat.zero_le _,rfl,rfl,World.ownsRow_nil _ _ _ _,Below.refl _ _⟩
 case round =>
  obtain⟨k,hk,rfl,rfl,hown,hnx⟩:=hrel
  have hcb:=Sp.cuts_bd s c k
  by_cases hend:k=s.size+1
  ·subst hend
   go_wp2
   go_ret
   exact⟨_,rfl,by unfold Sp.split;simpa using hown,hnx⟩
  by_cases hlast:k=s.size
  ·subst hlast
   have e1:(((s.size:Nat):Int) == ((s.size:Nat):Int))=true:=beq_iff_eq.2 rfl
   go_wp2_with (first
    | (at_builtin;go_must (refine wpList_append_own _ rfl _ _ 69 rfl B 9 i0 (.string ByteArray.empty) 1 16 Tryz.underlying69 hi hz0 hz1 hz2 rfl (by decide) _ _ _ rfl (hown.alloc _) ⟨wr.heap.size,0,none⟩ 1 1 [.string (s.extract (Sp.cuts s c s.size).1 s.size)] rfl rfl ?c1 ?c2 ?c3 ?c4 ?c5 ?_))
    | go_in)
   case c1 =>
    intro j u hj
    match j,hj with
    | 0,hj=>simp at hj;subst hj;simp[Addr.add]
   case c2=>intro u hu;simp at hu;subst hu;rfl
   case c3=>simp;unfold maxLen;omega
   case c4=>simp;omega
   case c5=>have:=hnx.size;have:=HB.out;simp;omega
   intro v' w1 hown' hgrow _
   have R:=split_app (by have:=hnx.size;have:=HB.out;omega) hown hnx hown' (by simp) hgrow
   clear hown' hgrow hown
   go_wp2
   go_roundw
   case rel=>exact⟨s.size+1,by omega,by go_num,by rw[Sp.cuts_yes (Or.inl rfl)];go_num,by rw[Sp.cuts_yes (Or.inl rfl)];simpa using R.1,R.2⟩
   case measure=>simp[intOf] <;> omega
  have hlt:k < s.size:=by omega
  have e1:(((k:Nat):Int) == ((s.size:Nat):Int))=false:=beq_eq_false_iff_ne.2 (by omega)
  have eb:=Sp.bt_of s k hlt
  by_cases hb:Sp.bt s k=c
  ·have e2:(((Sp.bt s k:Nat):Int) == (c:Int))=true:=beq_iff_eq.2 (by omega)
   have HC:=hde hb
   clear hb
   go_wp2_with (first
    | (at_builtin;refine wpList_append_own _ rfl _ _ 69 rfl B 9 i0 (.string ByteArray.empty) 1 16 Tryz.underlying69 hi hz0 hz1 hz2 rfl (by decide) _ _ _ rfl (hown.alloc _) ⟨wr.heap.size,0,none⟩ 1 1 [.string (s.extract (Sp.cuts s c k).1 k)] rfl rfl ?c1 ?c2 ?c3 ?c4 ?c5 ?_)
    | go_in)
   case c1 =>
    intro j u hj
    match j,hj with
    | 0,hj=>simp at hj;subst hj;simp[Addr.add]
   case c2=>intro u hu;simp at hu;subst hu;rfl
   case c3=>simp;unfold maxLen;omega
   case c4=>simp;omega
   case c5=>have:=hnx.size;have:=HB.out;simp;omega
   intro v' w1 hown' hgrow _
   have R:=split_app (by have:=hnx.size;have:=HB.out;omega) hown hnx hown' (by simp) hgrow
   clear hown' hgrow hown
   go_wp2
   go_roundw
   case rel=>exact⟨k+1,by omega,by go_num,by rw[Sp.cuts_yes (Or.inr (uh HC))];go_num,by rw[Sp.cuts_yes (Or.inr (uh HC))];simpa using R.1,R.2⟩
   case measure=>simp[intOf] <;> omega
  ·have e2:(((Sp.bt s k:Nat):Int) == (c:Int))=false:=beq_eq_false_iff_ne.2 (by omega)
   have HC:Hid (¬ (k=s.size∨Sp.bt s k=c)):=by rintro(h | h);exact hlast h;exact hb h
   clear hb
   go_wp2
   go_roundw
   case rel=>exact⟨k+1,by omega,by go_num,by rw[Sp.cuts_no HC.out],by rw[Sp.cuts_no HC.out];exact hown,hnx⟩
   case measure=>simp[intOf] <;> omega
end Go.Proofs.YteflnddphpjahaaGreatDoor
