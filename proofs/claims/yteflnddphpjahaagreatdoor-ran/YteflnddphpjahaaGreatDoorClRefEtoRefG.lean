import Derived.Test.YteflnddphpjahaaGreatDoorProg
import Derived.Test.YteflnddphpjahaaGreatDoorClPlAtoPlK
import Derived.Test.YteflnddphpjahaaGreatDoorClPlLtoRefC
import Derived.WalkKit
import Derived.Outline
import Derived.Test.YteflnddphpjahaaGreatDoorClShelf
import Derived.Deep.DeepMust
set_option linter.unusedVariables false
set_option linter.unusedSimpArgs false
set_option maxRecDepth 100000
set_option maxHeartbeats 16000000
namespace Go.Proofs.YteflnddphpjahaaGreatDoor
open Go.RowKit
theorem name_none (s:ByteArray) (i:Nat) (n:Int) (hn:n=(i:Int)) (w:World) (hs:s.size≤4000) (hi:i≤5000) (h:Sp.nm s i=none) :
  Calls Tryz.prog 237 #[.string s,.int .i64 n] w fun e w'=>e = .returned (.tuple #[.int .i64 0,.int .i64 (-1)])∧w'=w:=by
 have e:nameOut s i=(0,-1):=by
  unfold Sp.nm at h;unfold nameOut
  split at h
  ·cases h
  ·rename_i hc;rw[if_neg hc]
 have:=name_any s i n hn w hs hi
 rw[e] at this;exact this
theorem name_some (s:ByteArray) (i:Nat) (n:Int) (hn:n=(i:Int)) (w:World) (hs:s.size≤4000) (r:Int) (j:Nat) (h:Sp.nm s i=some (r,j)) :
  Calls Tryz.prog 237 #[.string s,.int .i64 n] w fun e w'=>e = .returned (.tuple #[.int .i64 r,.int .i64 j])∧w'=w:=by
 have hb:=Sp.nm_bd h
 have e:nameOut s i=(r,(j:Int)):=by
  unfold Sp.nm at h;unfold nameOut
  split at h
  ·rename_i hc
   rw[if_pos hc]
   injection h with h
   have h1:=congrArg Prod.fst h
   have h2:=congrArg Prod.snd h
   simp only at h1 h2
   have hd:=ref_bd s i hc.1
   rw[h1];congr 1;omega
  ·cases h
 have:=name_any s i n hn w hs (by omega)
 rw[e] at this;exact this
theorem numOut_none:numOut none = .tuple #[.int .i64 0,.bool false]:=rfl
theorem numOut_some (v:Int):numOut (some v) = .tuple #[.int .i64 v,.bool true]:=rfl
def lnVal (l:Sp.Ln):Value := .agg #[.bool l.edge,.int .i64 l.frm,.int .i64 l.to,.int .i64 l.n]
def ReadPost (s:ByteArray) (w:World) (e:Ending) (w':World):Prop :=
 ∃ l,e = .returned (.tuple #[lnVal l,.bool (Sp.lineOf s).isSome])∧(∀ m,Sp.lineOf s=some m→l=m)∧Below w.heap.size w w'
theorem read_no {s:ByteArray} {w w':World} (h:Sp.lineOf s=none) (l:Sp.Ln) (hb:Below w.heap.size w w'):ReadPost s w (.returned (.tuple #[lnVal l,.bool false])) w':=by
 refine⟨l,?_,?_,hb⟩
 ·rw[h];rfl
 ·intro m hm;rw[h] at hm;cases hm
theorem read_yes {s:ByteArray} {w w':World} (l:Sp.Ln) (h:Sp.lineOf s=some l) (hb:Below w.heap.size w w'):ReadPost s w (.returned (.tuple #[lnVal l,.bool true])) w':=by
 refine⟨l,?_,?_,hb⟩
 ·rw[h];rfl
 ·intro m hm;rw[h] at hm;injection hm
theorem read_1 (s:ByteArray) (w:World) (hs:s.size≤4000) (h0:Sp.nm s 0=none) :
  Calls Tryz.prog 156 #[.string s] w (ReadPost s w):=by
 have HL:Hid (Sp.lineOf s=none):=by show _=_;unfold Sp.lineOf;rw[h0]
 have H0:=hde h0
 clear h0
 go_enter Tryz.func156,Tryz.ntmps156
 go_wp2_with fail
 refine(name_none s (0) _ (by omega) _ hs (by omega) (uh H0)).mono ?_
 rintro e w' ⟨rfl,rfl⟩
 go_wp2
 exact bodyPost_ret (v := .tuple #[lnVal ⟨false,0,0,0⟩,.bool false]) (by simp[results,Tryz.results156,go_sem,lnVal]) rfl (read_no (uh HL) ⟨false,0,0,0⟩ (((Below.refl _ _).alloc nlr _).alloc (by simp) _))
theorem read_2_a (s:ByteArray) (w:World) (hs:s.size≤4000) (a:Int) (j:Nat) (h0:Sp.nm s 0=some (a,j)) (hne:¬ (j < s.size∧Sp.bt s j=62)) (hend:¬ j < s.size) :
  Calls Tryz.prog 156 #[.string s] w (ReadPost s w):=by
 have hjb:=Sp.nm_bd h0
 have HL:Hid (Sp.lineOf s=none):=by show _=_;unfold Sp.lineOf;rw[h0];simp only;rw[if_neg hne];exact if_neg (fun h=>hend h.1)
 have H0:=hde h0
 clear h0
 go_enter Tryz.func156,Tryz.ntmps156
 go_wp2_with fail
 refine(name_some s (0) _ (by omega) _ hs a j (uh H0)).mono ?_
 rintro e w' ⟨rfl,rfl⟩
 go_wp2
 exact bodyPost_ret (v := .tuple #[lnVal ⟨false,a,0,0⟩,.bool false]) (by simp[results,Tryz.results156,go_sem,lnVal]) rfl (read_no (uh HL) ⟨false,a,0,0⟩ (((Below.refl _ _).alloc nlr _).alloc (by simp) _))
theorem read_2_b (s:ByteArray) (w:World) (hs:s.size≤4000) (a:Int) (j:Nat) (h0:Sp.nm s 0=some (a,j)) (hne:¬ (j < s.size∧Sp.bt s j=62)) (hlt:j < s.size) (hb:¬ Sp.bt s j=32) :
  Calls Tryz.prog 156 #[.string s] w (ReadPost s w):=by
 have hjb:=Sp.nm_bd h0
 have HL:Hid (Sp.lineOf s=none):=by show _=_;unfold Sp.lineOf;rw[h0];simp only;rw[if_neg hne];exact if_neg (fun h=>hb h.2)
 have ebj:=Sp.bt_of s j hlt
 have gb:(((Sp.bt s j:Nat):Int) == 32)=false:=beq_eq_false_iff_ne.2 (by omega)
 have gb':(((Sp.bt s j:Nat):Int) != 32)=true:=by rw[bne_iff_ne];omega
 have H0:=hde h0
 clear h0
 go_enter Tryz.func156,Tryz.ntmps156
 go_wp2_with fail
 refine(name_some s (0) _ (by omega) _ hs a j (uh H0)).mono ?_
 rintro e w' ⟨rfl,rfl⟩
 go_wp2
 exact bodyPost_ret (v := .tuple #[lnVal ⟨false,a,0,0⟩,.bool false]) (by simp[results,Tryz.results156,go_sem,lnVal]) rfl (read_no (uh HL) ⟨false,a,0,0⟩ (((Below.refl _ _).alloc nlr _).alloc (by simp) _))
theorem read_2_c (s:ByteArray) (w:World) (hs:s.size≤4000) (a:Int) (j:Nat) (h0:Sp.nm s 0=some (a,j)) (hne:¬ (j < s.size∧Sp.bt s j=62)) (hlt:j < s.size) (hb:Sp.bt s j=32) (hn:Sp.number (s.extract (j+1) s.size).data.toList=none) :
  Calls Tryz.prog 156 #[.string s] w (ReadPost s w):=by
 have hjb:=Sp.nm_bd h0
 have HL:Hid (Sp.lineOf s=none):=by show _=_;unfold Sp.lineOf;rw[h0];simp only;rw[if_neg hne];exact(if_pos ⟨hlt,hb⟩).trans (by rw[hn];rfl)
 obtain⟨d,hx⟩:∃ d,s.extract (j+1) s.size=d:=⟨_,rfl⟩
 have hds:d.size≤4000:=by rw[← hx];simp;omega
 rw[hx] at hn
 have HN:=hde hn
 clear hn
 have ebj:=Sp.bt_of s j hlt
 have gb:(((Sp.bt s j:Nat):Int) == 32)=true:=beq_iff_eq.2 (by omega)
 have gb':(((Sp.bt s j:Nat):Int) != 32)=false:=by simp only[bne,gb];rfl
 have H0:=hde h0
 clear h0
 go_enter Tryz.func156,Tryz.ntmps156
 go_wp2_with fail
 refine(name_some s (0) _ (by omega) _ hs a j (uh H0)).mono ?_
 rintro e w' ⟨rfl,rfl⟩
 go_wp2_with fail
 refine(number_any d _ (by omega)).mono ?_
 rintro e w' ⟨rfl,rfl⟩
 rw[uh HN,numOut_none]
 go_wp2
 exact bodyPost_ret (v := .tuple #[lnVal ⟨false,a,0,0⟩,.bool false]) (by simp[results,Tryz.results156,go_sem,lnVal]) rfl (read_no (uh HL) ⟨false,a,0,0⟩ (((Below.refl _ _).alloc nlr _).alloc (by simp) _))
theorem read_2_d (s:ByteArray) (w:World) (hs:s.size≤4000) (a:Int) (j:Nat) (h0:Sp.nm s 0=some (a,j)) (hne:¬ (j < s.size∧Sp.bt s j=62)) (hlt:j < s.size) (hb:Sp.bt s j=32) (v:Int) (hn:Sp.number (s.extract (j+1) s.size).data.toList=some v) :
  Calls Tryz.prog 156 #[.string s] w (ReadPost s w):=by
 have hjb:=Sp.nm_bd h0
 have HL:Hid (Sp.lineOf s=some ⟨false,a,0,v⟩):=by show _=_;unfold Sp.lineOf;rw[h0];simp only;rw[if_neg hne];exact(if_pos ⟨hlt,hb⟩).trans (by rw[hn];rfl)
 obtain⟨d,hx⟩:∃ d,s.extract (j+1) s.size=d:=⟨_,rfl⟩
 have hds:d.size≤4000:=by rw[← hx];simp;omega
 rw[hx] at hn
 have HN:=hde hn
 clear hn
 have ebj:=Sp.bt_of s j hlt
 have gb:(((Sp.bt s j:Nat):Int) == 32)=true:=beq_iff_eq.2 (by omega)
 have gb':(((Sp.bt s j:Nat):Int) != 32)=false:=by simp only[bne,gb];rfl
 have H0:=hde h0
 clear h0
 go_enter Tryz.func156,Tryz.ntmps156
 go_wp2_with fail
 refine(name_some s (0) _ (by omega) _ hs a j (uh H0)).mono ?_
 rintro e w' ⟨rfl,rfl⟩
 go_wp2_with fail
 refine(number_any d _ (by omega)).mono ?_
 rintro e w' ⟨rfl,rfl⟩
 rw[uh HN,numOut_some]
 go_wp2
 exact bodyPost_ret (v := .tuple #[lnVal ⟨false,a,0,v⟩,.bool true]) (by simp[results,Tryz.results156,go_sem,lnVal]) rfl (read_yes ⟨false,a,0,v⟩ (uh HL) (((Below.refl _ _).alloc nlr _).alloc (by simp) _))
theorem read_3 (s:ByteArray) (w:World) (hs:s.size≤4000) (a:Int) (j:Nat) (h0:Sp.nm s 0=some (a,j)) (hjl:j < s.size) (he2:Sp.bt s j=62) (h1:Sp.nm s (j+1)=none) :
  Calls Tryz.prog 156 #[.string s] w (ReadPost s w):=by
 have he:j < s.size∧Sp.bt s j=62:=⟨hjl,he2⟩
 have hjb:=Sp.nm_bd h0
 have HL:Hid (Sp.lineOf s=none):=by show _=_;unfold Sp.lineOf;rw[h0];simp only;rw[if_pos he];rw[h1]
 have ej:=Sp.bt_of s j hjl
 have ge:(((Sp.bt s j:Nat):Int) == 62)=true:=beq_iff_eq.2 (by omega)
 clear he he2
 have H0:=hde h0
 clear h0
 have H1:=hde h1
 clear h1
 go_enter Tryz.func156,Tryz.ntmps156
 go_wp2_with fail
 refine(name_some s (0) _ (by omega) _ hs a j (uh H0)).mono ?_
 rintro e w' ⟨rfl,rfl⟩
 go_wp2_with fail
 refine(name_none s (j+1) _ (by omega) _ hs (by omega) (uh H1)).mono ?_
 rintro e w' ⟨rfl,rfl⟩
 go_wp2
 exact bodyPost_ret (v := .tuple #[lnVal ⟨false,a,0,0⟩,.bool false]) (by simp[results,Tryz.results156,go_sem,lnVal]) rfl (read_no (uh HL) ⟨false,a,0,0⟩ (((Below.refl _ _).alloc nlr _).alloc (by simp) _))
theorem read_4_a (s:ByteArray) (w:World) (hs:s.size≤4000) (a:Int) (j:Nat) (h0:Sp.nm s 0=some (a,j)) (hjl:j < s.size) (he2:Sp.bt s j=62) (b:Int) (k:Nat) (h1:Sp.nm s (j+1)=some (b,k)) (hend:¬ k < s.size) :
  Calls Tryz.prog 156 #[.string s] w (ReadPost s w):=by
 have hjb:=Sp.nm_bd h0
 have hkb:=Sp.nm_bd h1
 have he:j < s.size∧Sp.bt s j=62:=⟨hjl,he2⟩
 have HL:Hid (Sp.lineOf s=none):=by show _=_;unfold Sp.lineOf;rw[h0];simp only;rw[if_pos he];rw[h1];simp only;exact if_neg (fun h=>hend h.1)
 have ej:=Sp.bt_of s j hjl
 have ge:(((Sp.bt s j:Nat):Int) == 62)=true:=beq_iff_eq.2 (by omega)
 clear he he2
 have H0:=hde h0
 clear h0
 have H1:=hde h1
 clear h1
 go_enter Tryz.func156,Tryz.ntmps156
 go_wp2_with fail
 refine(name_some s (0) _ (by omega) _ hs a j (uh H0)).mono ?_
 rintro e w' ⟨rfl,rfl⟩
 go_wp2_with fail
 refine(name_some s (j+1) _ (by omega) _ hs b k (uh H1)).mono ?_
 rintro e w' ⟨rfl,rfl⟩
 go_wp2
 exact bodyPost_ret (v := .tuple #[lnVal ⟨true,a,b,0⟩,.bool false]) (by simp[results,Tryz.results156,go_sem,lnVal]) rfl (read_no (uh HL) ⟨true,a,b,0⟩ (((Below.refl _ _).alloc nlr _).alloc (by simp) _))
theorem read_4_b (s:ByteArray) (w:World) (hs:s.size≤4000) (a:Int) (j:Nat) (h0:Sp.nm s 0=some (a,j)) (hjl:j < s.size) (he2:Sp.bt s j=62) (b:Int) (k:Nat) (h1:Sp.nm s (j+1)=some (b,k)) (hlt:k < s.size) (hb:¬ Sp.bt s k=32) :
  Calls Tryz.prog 156 #[.string s] w (ReadPost s w):=by
 have hjb:=Sp.nm_bd h0
 have hkb:=Sp.nm_bd h1
 have he:j < s.size∧Sp.bt s j=62:=⟨hjl,he2⟩
 have HL:Hid (Sp.lineOf s=none):=by show _=_;unfold Sp.lineOf;rw[h0];simp only;rw[if_pos he];rw[h1];simp only;exact if_neg (fun h=>hb h.2)
 have ej:=Sp.bt_of s j hjl
 have ge:(((Sp.bt s j:Nat):Int) == 62)=true:=beq_iff_eq.2 (by omega)
 clear he he2
 have ebj:=Sp.bt_of s k hlt
 have gb:(((Sp.bt s k:Nat):Int) == 32)=false:=beq_eq_false_iff_ne.2 (by omega)
 have gb':(((Sp.bt s k:Nat):Int) != 32)=true:=by rw[bne_iff_ne];omega
 have H0:=hde h0
 clear h0
 have H1:=hde h1
 clear h1
 go_enter Tryz.func156,Tryz.ntmps156
 go_wp2_with fail
 refine(name_some s (0) _ (by omega) _ hs a j (uh H0)).mono ?_
 rintro e w' ⟨rfl,rfl⟩
 go_wp2_with fail
 refine(name_some s (j+1) _ (by omega) _ hs b k (uh H1)).mono ?_
 rintro e w' ⟨rfl,rfl⟩
 go_wp2
 exact bodyPost_ret (v := .tuple #[lnVal ⟨true,a,b,0⟩,.bool false]) (by simp[results,Tryz.results156,go_sem,lnVal]) rfl (read_no (uh HL) ⟨true,a,b,0⟩ (((Below.refl _ _).alloc nlr _).alloc (by simp) _))
theorem read_4_c (s:ByteArray) (w:World) (hs:s.size≤4000) (a:Int) (j:Nat) (h0:Sp.nm s 0=some (a,j)) (hjl:j < s.size) (he2:Sp.bt s j=62) (b:Int) (k:Nat) (h1:Sp.nm s (j+1)=some (b,k)) (hlt:k < s.size) (hb:Sp.bt s k=32) (hn:Sp.number (s.extract (k+1) s.size).data.toList=none) :
  Calls Tryz.prog 156 #[.string s] w (ReadPost s w):=by
 have hjb:=Sp.nm_bd h0
 have hkb:=Sp.nm_bd h1
 have he:j < s.size∧Sp.bt s j=62:=⟨hjl,he2⟩
 have HL:Hid (Sp.lineOf s=none):=by show _=_;unfold Sp.lineOf;rw[h0];simp only;rw[if_pos he];rw[h1];simp only;exact(if_pos ⟨hlt,hb⟩).trans (by rw[hn];rfl)
 obtain⟨d,hx⟩:∃ d,s.extract (k+1) s.size=d:=⟨_,rfl⟩
 have hds:d.size≤4000:=by rw[← hx];simp;omega
 rw[hx] at hn
 have HN:=hde hn
 clear hn
 have ej:=Sp.bt_of s j hjl
 have ge:(((Sp.bt s j:Nat):Int) == 62)=true:=beq_iff_eq.2 (by omega)
 clear he he2
 have ebj:=Sp.bt_of s k hlt
 have gb:(((Sp.bt s k:Nat):Int) == 32)=true:=beq_iff_eq.2 (by omega)
 have gb':(((Sp.bt s k:Nat):Int) != 32)=false:=by simp only[bne,gb];rfl
 have H0:=hde h0
 clear h0
 have H1:=hde h1
 clear h1
 go_enter Tryz.func156,Tryz.ntmps156
 go_wp2_with fail
 refine(name_some s (0) _ (by omega) _ hs a j (uh H0)).mono ?_
 rintro e w' ⟨rfl,rfl⟩
 go_wp2_with fail
 refine(name_some s (j+1) _ (by omega) _ hs b k (uh H1)).mono ?_
 rintro e w' ⟨rfl,rfl⟩
 go_wp2_with fail
 refine(number_any d _ (by omega)).mono ?_
 rintro e w' ⟨rfl,rfl⟩
 rw[uh HN,numOut_none]
 go_wp2
 exact bodyPost_ret (v := .tuple #[lnVal ⟨true,a,b,0⟩,.bool false]) (by simp[results,Tryz.results156,go_sem,lnVal]) rfl (read_no (uh HL) ⟨true,a,b,0⟩ (((Below.refl _ _).alloc nlr _).alloc (by simp) _))
theorem read_4_d (s:ByteArray) (w:World) (hs:s.size≤4000) (a:Int) (j:Nat) (h0:Sp.nm s 0=some (a,j)) (hjl:j < s.size) (he2:Sp.bt s j=62) (b:Int) (k:Nat) (h1:Sp.nm s (j+1)=some (b,k)) (hlt:k < s.size) (hb:Sp.bt s k=32) (v:Int) (hn:Sp.number (s.extract (k+1) s.size).data.toList=some v) :
  Calls Tryz.prog 156 #[.string s] w (ReadPost s w):=by
 have hjb:=Sp.nm_bd h0
 have hkb:=Sp.nm_bd h1
 have he:j < s.size∧Sp.bt s j=62:=⟨hjl,he2⟩
 have HL:Hid (Sp.lineOf s=some ⟨true,a,b,v⟩):=by show _=_;unfold Sp.lineOf;rw[h0];simp only;rw[if_pos he];rw[h1];simp only;exact(if_pos ⟨hlt,hb⟩).trans (by rw[hn];rfl)
 obtain⟨d,hx⟩:∃ d,s.extract (k+1) s.size=d:=⟨_,rfl⟩
 have hds:d.size≤4000:=by rw[← hx];simp;omega
 rw[hx] at hn
 have HN:=hde hn
 clear hn
 have ej:=Sp.bt_of s j hjl
 have ge:(((Sp.bt s j:Nat):Int) == 62)=true:=beq_iff_eq.2 (by omega)
 clear he he2
 have ebj:=Sp.bt_of s k hlt
 have gb:(((Sp.bt s k:Nat):Int) == 32)=true:=beq_iff_eq.2 (by omega)
 have gb':(((Sp.bt s k:Nat):Int) != 32)=false:=by simp only[bne,gb];rfl
 have H0:=hde h0
 clear h0
 have H1:=hde h1
 clear h1
 go_enter Tryz.func156,Tryz.ntmps156
 go_wp2_with fail
 refine(name_some s (0) _ (by omega) _ hs a j (uh H0)).mono ?_
 rintro e w' ⟨rfl,rfl⟩
 go_wp2_with fail
 refine(name_some s (j+1) _ (by omega) _ hs b k (uh H1)).mono ?_
 rintro e w' ⟨rfl,rfl⟩
 go_wp2_with fail
 refine(number_any d _ (by omega)).mono ?_
 rintro e w' ⟨rfl,rfl⟩
 rw[uh HN,numOut_some]
 go_wp2
 exact bodyPost_ret (v := .tuple #[lnVal ⟨true,a,b,v⟩,.bool true]) (by simp[results,Tryz.results156,go_sem,lnVal]) rfl (read_yes ⟨true,a,b,v⟩ (uh HL) (((Below.refl _ _).alloc nlr _).alloc (by simp) _))
theorem read_any (s:ByteArray) (w:World) (hs:s.size≤4000):Calls Tryz.prog 156 #[.string s] w (ReadPost s w):=by
 cases h0:Sp.nm s 0 with
 | none=>exact read_1 s w hs h0
 | some p =>
  obtain⟨a,j⟩:=p
  by_cases he:j < s.size∧Sp.bt s j=62
  ·cases h1:Sp.nm s (j+1) with
   | none=>exact read_3 s w hs a j h0 he.1 he.2 h1
   | some q =>
    obtain⟨b,k⟩:=q
    by_cases hk:k < s.size
    ·by_cases hb:Sp.bt s k=32
     ·cases hn:Sp.number (s.extract (k+1) s.size).data.toList with
      | none=>exact read_4_c s w hs a j h0 he.1 he.2 b k h1 hk hb hn
      | some v=>exact read_4_d s w hs a j h0 he.1 he.2 b k h1 hk hb v hn
     ·exact read_4_b s w hs a j h0 he.1 he.2 b k h1 hk hb
    ·exact read_4_a s w hs a j h0 he.1 he.2 b k h1 hk
  ·by_cases hk:j < s.size
   ·by_cases hb:Sp.bt s j=32
    ·cases hn:Sp.number (s.extract (j+1) s.size).data.toList with
     | none=>exact read_2_c s w hs a j h0 he hk hb hn
     | some v=>exact read_2_d s w hs a j h0 he hk hb v hn
    ·exact read_2_b s w hs a j h0 he hk hb
   ·exact read_2_a s w hs a j h0 he hk
theorem readSize_no (d:ByteArray) (w:World) (hs:d.size≤4000) (h:d.size=0∨∃ h0:0 < d.size,((d[0].toNat:Nat):Int)=48) :
  Calls Tryz.prog 247 #[.string d] w fun e w'=>e = .returned (numOut none)∧w'=w:=by
 rcases h with h | ⟨h0,h⟩
 ·have hne:d.toList.isEmpty=true:=by rw[ByteArray.toList_eq,nil_of (by omega)];rfl
  go_enter Tryz.func247,Tryz.ntmps247
  go_wp2
  go_ret2
  exact⟨rfl,rfl⟩
 ·have hne:d.toList.isEmpty=false:=by
   rw[ByteArray.toList_eq]
   cases hq:d.data.toList with
   | nil=>exact absurd hq (ne_nil h0)
   | cons _ _=>rfl
  have h':(((d[0].toNat:Nat):Int) == 48)=true:=beq_iff_eq.2 h
  clear h
  go_enter Tryz.func247,Tryz.ntmps247
  go_wp2
  go_ret2
  exact⟨rfl,rfl⟩
theorem readSize_loop (d:ByteArray) (w:World) (hs:d.size≤4000) (hd:0 < d.size) (hd0:((d[0].toNat:Nat):Int)≠48) :
  Calls Tryz.prog 247 #[.string d] w fun e w'=>e = .returned (numOut (Sp.dval d.data.toList))∧Below w.heap.size w w':=by
 have hne:d.toList.isEmpty=false:=by
  rw[ByteArray.toList_eq]
  cases hq:d.data.toList with
  | nil=>exact absurd hq (ne_nil hd)
  | cons _ _=>rfl
 have hd0':(((d[0].toNat:Nat):Int) == 48)=false:=beq_eq_false_iff_ne.2 hd0
 go_enter Tryz.func247,Tryz.ntmps247
 go_wp2_with fail
 go_loopw [4] (fun n wr=>∃ (k:Nat) (v:Int),k≤d.size∧n = .int .i64 v∧Hid (Sp.dval (d.data.toList.take k)=some v)∧wr=w.iter d k) (fun _ wr=>d.size - wr.iterPos w.heap.size)
 case atStart=>exact⟨0,0,Nat.zero_le _,rfl,rfl,rfl⟩
 case round =>
  obtain⟨k,v,hk,rfl,HV,rfl⟩:=hrel
  have hb:=Sp.dval_bd HV.out
  have hbel:∀ p,Below w.heap.size w (w.iter d p):=fun p=>(Below.refl _ _).alloc nlr _
  by_cases hlt:k < d.size
  ·have HS:Hid (Sp.dval (d.data.toList.take (k+1))=Sp.dstep (some v) d[k]):=by
    show _=_;rw[Sp.take_snoc d k hlt,Sp.dval_snoc,HV.out]
   by_cases ha:(d[k].toNat) < 128
   ·have hnx:=fun ty=>run_next_ascii (P:=Tryz.prog) w d k ty hlt ha
    by_cases c1:((d[k].toNat:Nat):Int) < 48
    ·have HN:Hid (Sp.dval d.data.toList=none):=Sp.dval_take_none (k:=k+1) (by rw[HS.out];exact if_pos (Or.inl c1))
     go_wp2
     go_ret2
     exact⟨by rw[HN.out];rfl,hbel _⟩
    by_cases c2:57 < ((d[k].toNat:Nat):Int)
    ·have HN:Hid (Sp.dval d.data.toList=none):=Sp.dval_take_none (k:=k+1) (by rw[HS.out];exact if_pos (Or.inr (Or.inl c2)))
     go_wp2
     go_ret2
     exact⟨by rw[HN.out];rfl,hbel _⟩
    by_cases c3:1000000000 < v * 10+(((d[k].toNat:Nat):Int) - 48)
    ·have HN:Hid (Sp.dval d.data.toList=none):=Sp.dval_take_none (k:=k+1) (by rw[HS.out];exact if_pos (Or.inr (Or.inr (by omega))))
     go_wp2
     go_ret2
     exact⟨by rw[HN.out];rfl,hbel _⟩
    ·go_wp2
     go_roundw
     case rel=>exact⟨k+1,_,by omega,rfl,by show _=_;rw[HS.out];rw[show v * 10=10 * v from by omega];exact if_neg (by omega),rfl⟩
     case measure=>simp;omega
   ·have hnx:=fun ty=>run_next_any (P:=Tryz.prog) w d k ty hlt
    have hhi:=(decode_high d k hlt (by omega)).1
    have hle:=decode_le d k
    have HN:Hid (Sp.dval d.data.toList=none):=Sp.dval_take_none (k:=k+1) (by rw[HS.out];exact if_pos (Or.inr (Or.inl (by omega))))
    generalize Utf8.decode d k=D at hnx hhi hle
    have hhi':128≤((D.1:Nat):Int):=by omega
    go_wp2
    go_ret2
    exact⟨by rw[HN.out];rfl,hbel _⟩
  ·have HN:Hid (Sp.dval d.data.toList=some v):=by
    show _=_;rw[← Sp.take_all d k (by omega)];exact HV.out
   have hnx:=fun ty=>run_next_end (P:=Tryz.prog) w d k ty hlt
   go_wp2
   go_ret2
   exact⟨by rw[HN.out];rfl,hbel _⟩
theorem readSize_any (d:ByteArray) (w:World) (hs:d.size≤4000) :
  Calls Tryz.prog 247 #[.string d] w fun e w'=>e = .returned (numOut (Sp.digits d.data.toList))∧Below w.heap.size w w':=by
 by_cases hd:0 < d.size
 ·by_cases h48:((d[0].toNat:Nat):Int)=48
  ·rw[show Sp.digits d.data.toList=none from if_pos (Or.inr (head_is 48 hd h48))]
   exact(readSize_no d w hs (Or.inr ⟨hd,h48⟩)).mono fun e w' h=>⟨h.1,by rw[h.2];exact Below.refl _ _⟩
  ·have hne:=ne_nil hd
   rw[show Sp.digits d.data.toList=Sp.dval d.data.toList from if_neg (by rintro(e | e);exact hne e;exact head_ne 48 hd h48 e)]
   exact readSize_loop d w hs hd h48
 ·rw[show Sp.digits d.data.toList=none from if_pos (Or.inl (nil_of hd))]
  exact(readSize_no d w hs (Or.inl (by omega))).mono fun e w' h=>⟨h.1,by rw[h.2];exact Below.refl _ _⟩
theorem pre_yes {l:List UInt8} (h:l.head? = some 45):Lib.hasPrefix l [45]=true∧Lib.trimPrefix l [45]=l.tail:=by
 cases l with
 | nil=>cases h
 | cons a l =>
  injection h with h
  subst h
  exact⟨rfl,rfl⟩
theorem pre_no {l:List UInt8} (h:¬ l.head? = some 45):Lib.hasPrefix l [45]=false∧Lib.trimPrefix l [45]=l:=by
 cases l with
 | nil=>exact⟨rfl,rfl⟩
 | cons a l =>
  have ha:¬ a=45:=fun e=>h (by rw[e];rfl)
  have e1:Lib.hasPrefix (a :: l) [45]=false:=by
   simp[Lib.hasPrefix,List.isPrefixOf];exact fun e=>ha e.symm
  exact⟨e1,by unfold Lib.trimPrefix;rw[e1];rfl⟩
theorem numRead_any (s:ByteArray) (w:World) (hs:s.size≤4000) :
  Calls Tryz.prog 163 #[.string s] w fun e w'=>e = .returned (numOut (Sp.number s.data.toList))∧Below w.heap.size w w':=by
 have hcut:=Tryz.strings_CutPrefix s ⟨#[45]⟩ w
 by_cases hm:s.data.toList.head? = some 45
 ·obtain⟨e1,e2⟩:=pre_yes hm
  have hz:¬ s.data.toList=[48]:=fun e=>by rw[e] at hm;cases hm
  have en:Sp.number s.data.toList=(Sp.digits s.data.toList.tail).map (fun n=>-n):=by unfold Sp.number;rw[if_neg hz,if_pos hm]
  rw[en]
  obtain⟨d,hd⟩:∃ d:ByteArray,d=⟨s.data.toList.tail.toArray⟩:=⟨_,rfl⟩
  have hdl:d.data.toList=s.data.toList.tail:=by rw[hd]
  have hds:d.size≤4000:=by
   have:d.data.toList.length≤s.data.toList.length:=by rw[hdl,List.length_tail];omega
   rw[Array.length_toList,Array.length_toList] at this
   have a1:d.data.size=d.size:=rfl
   have a2:s.data.size=s.size:=rfl
   omega
  rw[show ((⟨#[45]⟩:ByteArray).data.toList)=[45] from rfl,e1,e2,← hd] at hcut
  rw[← hdl]
  clear hd e1 e2 hm hz en hdl
  have HC:=hde hcut
  clear hcut
  by_cases h0:d.data.toList=[48]
  ·have h0':=toList_is h0
   have HD:Hid (Sp.digits d.data.toList=none):=by show _=_;unfold Sp.digits;rw[h0];simp
   go_enter Tryz.func163,Tryz.ntmps163
   go_wp2_with fail
   refine(uh HC).mono ?_
   rintro e w1 ⟨rfl,hw⟩
   obtain rfl:=hw.symm
   go_wp2
   go_ret2
   exact⟨by rw[uh HD];rfl,Below.refl _ _⟩
  ·have h0':=toList_ne h0
   cases hq:Sp.digits d.data.toList with
   | none =>
    have HQ:=hde hq
    clear hq h0
    go_enter Tryz.func163,Tryz.ntmps163
    go_wp2_with fail
    refine(uh HC).mono ?_
    rintro e w1 ⟨rfl,hw⟩
    obtain rfl:=hw.symm
    go_wp2_with fail
    refine(readSize_any d _ hds).mono ?_
    rintro e w2 ⟨rfl,hb⟩
    rw[uh HQ,numOut_none]
    go_wp2
    go_ret2
    exact⟨rfl,hb⟩
   | some v =>
    have HQ:=hde hq
    have hvb:0≤v∧v≤1000000000:=by
     unfold Sp.digits at hq
     split at hq
     ·cases hq
     ·exact Sp.dval_bd hq
    clear hq h0
    go_enter Tryz.func163,Tryz.ntmps163
    go_wp2_with fail
    refine(uh HC).mono ?_
    rintro e w1 ⟨rfl,hw⟩
    obtain rfl:=hw.symm
    go_wp2_with fail
    refine(readSize_any d _ hds).mono ?_
    rintro e w2 ⟨rfl,hb⟩
    rw[uh HQ,numOut_some]
    go_wp2
    go_ret2
    exact⟨rfl,hb⟩
 ·obtain⟨e1,e2⟩:=pre_no hm
  have hse:(⟨s.data.toList.toArray⟩:ByteArray)=s:=rfl
  rw[show ((⟨#[45]⟩:ByteArray).data.toList)=[45] from rfl,e1,e2,hse] at hcut
  have HC:=hde hcut
  clear hcut e1 e2 hse
  by_cases h0:s.data.toList=[48]
  ·have h0':=toList_is h0
   rw[show Sp.number s.data.toList=some 0 from if_pos h0]
   go_enter Tryz.func163,Tryz.ntmps163
   go_wp2_with fail
   refine(uh HC).mono ?_
   rintro e w1 ⟨rfl,hw⟩
   obtain rfl:=hw.symm
   go_wp2
   go_ret2
   exact⟨rfl,Below.refl _ _⟩
  ·have h0':=toList_ne h0
   have en:Sp.number s.data.toList=Sp.digits s.data.toList:=by unfold Sp.number;rw[if_neg h0,if_neg hm]
   rw[en]
   clear en hm
   cases hq:Sp.digits s.data.toList with
   | none =>
    have HQ:=hde hq
    clear hq h0
    go_enter Tryz.func163,Tryz.ntmps163
    go_wp2_with fail
    refine(uh HC).mono ?_
    rintro e w1 ⟨rfl,hw⟩
    obtain rfl:=hw.symm
    go_wp2_with fail
    refine(readSize_any s _ hs).mono ?_
    rintro e w2 ⟨rfl,hb⟩
    rw[uh HQ,numOut_none]
    go_wp2
    go_ret2
    exact⟨rfl,hb⟩
   | some v =>
    have HQ:=hde hq
    clear hq h0
    go_enter Tryz.func163,Tryz.ntmps163
    go_wp2_with fail
    refine(uh HC).mono ?_
    rintro e w1 ⟨rfl,hw⟩
    obtain rfl:=hw.symm
    go_wp2_with fail
    refine(readSize_any s _ hs).mono ?_
    rintro e w2 ⟨rfl,hb⟩
    rw[uh HQ,numOut_some]
    go_wp2
    go_ret2
    exact⟨rfl,hb⟩
theorem Tryz.info_string:(Tryz.prog.info? 9).map (fun i=>(i.zero,i.size,i.bytes))=some (some (.string ByteArray.empty),1,16):=by kernel_rfl
theorem split_app {B e n:Nat} {xs:List Value} {x:Value} {w wr w1:World} {v v':Value} {o:Obj} (hB:B≤wr.heap.size)
  (hown:wr.ownsRow B e 1 v xs.length xs) (hnx:Below B w wr) (hown':w1.ownsRow B e 1 v' (n+1) (xs++[x])) (hn:n=xs.length) (hgrow:(wr.alloc o).grownBy w1 v.ownBlock) :
  w1.ownsRow B e 1 v' (xs++[x]).length (xs++[x])∧Below B w w1 :=
 ⟨by subst hn;simpa using hown',(hnx.alloc hB o).grown hgrow (by simp;omega) (fun j hj=>by have:=(hown.lt j hj).1;omega)⟩
theorem split_any (s:ByteArray) (c:Nat) (n:Int) (hn:n=(c:Int)) (hc:c < 256) (w:World) (hs:s.size≤4000) :
  Calls Tryz.prog 106 #[.string s,.int .u8 n] w fun e w'=>∃ v,e = .returned v∧w'.ownsRow w.heap.size 9 1 v (Sp.split s c).length ((Sp.split s c).map Value.string)∧Below w.heap.size w w':=by
 subst hn
 obtain⟨i0,hi,hz0,hz1,hz2⟩:=info_parts Tryz.info_string
 generalize hB:w.heap.size=B
 have HB:=hde hB
 clear hB
 go_enter Tryz.func106,Tryz.ntmps106
 go_wp2
 go_loopw [5,6,7] (fun v f i wr=>∃ k:Nat,k≤s.size+1∧i = .int .i64 k∧f = .int .i64 (Sp.cuts s c k).1∧wr.ownsRow B 9 1 v ((Sp.cuts s c k).2.map Value.string).length ((Sp.cuts s c k).2.map Value.string)∧Below B w wr)
  (fun _ _ i _=>s.size+1 - (intOf i).toNat)
 case atStart=>exact⟨0,Nat.zero_le _,rfl,rfl,World.ownsRow_nil _ _ _ _,Below.refl _ _⟩
 case round =>
  obtain⟨k,hk,rfl,rfl,hown,hnx⟩:=hrel
  have hcb:=Sp.cuts_bd s c k
  by_cases hend:k=s.size+1
  ·subst hend
   go_wp2
   go_ret
   exact⟨_,rfl,by unfold Sp.split;simpa using hown,hnx⟩
  by_cases hlast:k=s.size
  ·subst hlast
   have e1:(((s.size:Nat):Int) == ((s.size:Nat):Int))=true:=beq_iff_eq.2 rfl
   go_wp2_with (first
    | (at_builtin;go_must (refine wpList_append_own _ rfl _ _ 69 rfl B 9 i0 (.string ByteArray.empty) 1 16 Tryz.underlying69 hi hz0 hz1 hz2 rfl (by decide) _ _ _ rfl (hown.alloc _) ⟨wr.heap.size,0,none⟩ 1 1 [.string (s.extract (Sp.cuts s c s.size).1 s.size)] rfl rfl ?c1 ?c2 ?c3 ?c4 ?c5 ?_))
    | go_in)
   case c1 =>
    intro j u hj
    match j,hj with
    | 0,hj=>simp at hj;subst hj;simp[Addr.add]
   case c2=>intro u hu;simp at hu;subst hu;rfl
   case c3=>simp;unfold maxLen;omega
   case c4=>simp;omega
   case c5=>have:=hnx.size;have:=HB.out;simp;omega
   intro v' w1 hown' hgrow _
   have R:=split_app (by have:=hnx.size;have:=HB.out;omega) hown hnx hown' (by simp) hgrow
   clear hown' hgrow hown
   go_wp2
   go_roundw
   case rel=>exact⟨s.size+1,by omega,by go_num,by rw[Sp.cuts_yes (Or.inl rfl)];go_num,by rw[Sp.cuts_yes (Or.inl rfl)];simpa using R.1,R.2⟩
   case measure=>simp[intOf] <;> omega
  have hlt:k < s.size:=by omega
  have e1:(((k:Nat):Int) == ((s.size:Nat):Int))=false:=beq_eq_false_iff_ne.2 (by omega)
  have eb:=Sp.bt_of s k hlt
  by_cases hb:Sp.bt s k=c
  ·have e2:(((Sp.bt s k:Nat):Int) == (c:Int))=true:=beq_iff_eq.2 (by omega)
   have HC:=hde hb
   clear hb
   go_wp2_with (first
    | (at_builtin;refine wpList_append_own _ rfl _ _ 69 rfl B 9 i0 (.string ByteArray.empty) 1 16 Tryz.underlying69 hi hz0 hz1 hz2 rfl (by decide) _ _ _ rfl (hown.alloc _) ⟨wr.heap.size,0,none⟩ 1 1 [.string (s.extract (Sp.cuts s c k).1 k)] rfl rfl ?c1 ?c2 ?c3 ?c4 ?c5 ?_)
    | go_in)
   case c1 =>
    intro j u hj
    match j,hj with
    | 0,hj=>simp at hj;subst hj;simp[Addr.add]
   case c2=>intro u hu;simp at hu;subst hu;rfl
   case c3=>simp;unfold maxLen;omega
   case c4=>simp;omega
   case c5=>have:=hnx.size;have:=HB.out;simp;omega
   intro v' w1 hown' hgrow _
   have R:=split_app (by have:=hnx.size;have:=HB.out;omega) hown hnx hown' (by simp) hgrow
   clear hown' hgrow hown
   go_wp2
   go_roundw
   case rel=>exact⟨k+1,by omega,by go_num,by rw[Sp.cuts_yes (Or.inr (uh HC))];go_num,by rw[Sp.cuts_yes (Or.inr (uh HC))];simpa using R.1,R.2⟩
   case measure=>simp[intOf] <;> omega
  ·have e2:(((Sp.bt s k:Nat):Int) == (c:Int))=false:=beq_eq_false_iff_ne.2 (by omega)
   have HC:Hid (¬ (k=s.size∨Sp.bt s k=c)):=by rintro(h | h);exact hlast h;exact hb h
   clear hb
   go_wp2
   go_roundw
   case rel=>exact⟨k+1,by omega,by go_num,by rw[Sp.cuts_no HC.out],by rw[Sp.cuts_no HC.out];exact hown,hnx⟩
   case measure=>simp[intOf] <;> omega
theorem Tryz.info_line:(Tryz.prog.info? 224).map (fun i=>(i.zero,i.size,i.bytes))=some (some (.agg #[.bool false,.int .i64 0,.int .i64 0,.int .i64 0]),4,32):=by kernel_rfl
theorem Tryz.info_int:(Tryz.prog.info? 3).map (fun i=>(i.zero,i.size,i.bytes))=some (some (.int .i64 0),1,8):=by kernel_rfl
theorem own_form {w:World} {B e size n:Nat} {v:Value} {xs:List Value} (h:w.ownsRow B e size v n xs) (hn:0 < n):∃ g cap,v = .slice (some ⟨g,0,none⟩) n cap:=by
 rcases h.2 with ⟨_,h0⟩ | ⟨g,cap,cur,hv,_⟩
 ·omega
 ·exact⟨g,cap,hv⟩
def lnCells (l:Sp.Ln):List Value:=[.bool l.edge,.int .i64 l.frm,.int .i64 l.to,.int .i64 l.n]
def lnsCells (L:List Sp.Ln):List Value:=L.flatMap lnCells
def numCells (A:List Nat):List Value:=A.map fun k:Nat=>Value.int .i64 (k:Int)
def ReadsPost (s:ByteArray) (w:World) (e:Ending) (w':World):Prop :=
 Below w.heap.size w w' ∧
 match Sp.readSpec s with
 | .error (a,b)=>e = .returned (.tuple #[.slice none 0 0,.slice none 0 0,.int .i64 a,.int .i64 b])
 | .ok (L,A)=>∃ v u,e = .returned (.tuple #[v,u,.int .i64 0,.int .i64 0])∧w'.ownsRow w.heap.size 224 4 v L.length (lnsCells L)∧w'.ownsRow w.heap.size 3 1 u A.length (numCells A)
theorem reads_err {s:ByteArray} {w w':World} {a b:Int} (h:Sp.readSpec s = .error (a,b)) (hb:Below w.heap.size w w') :
  ReadsPost s w (.returned (.tuple #[.slice none 0 0,.slice none 0 0,.int .i64 a,.int .i64 b])) w':=by
 refine⟨hb,?_⟩;rw[h]
theorem reads_ok {s:ByteArray} {w w':World} {L:List Sp.Ln} {A:List Nat} {v u:Value} (h:Sp.readSpec s = .ok (L,A)) (hb:Below w.heap.size w w')
  (hv:w'.ownsRow w.heap.size 224 4 v L.length (lnsCells L)) (hu:w'.ownsRow w.heap.size 3 1 u A.length (numCells A)) :
  ReadsPost s w (.returned (.tuple #[v,u,.int .i64 0,.int .i64 0])) w':=by
 refine⟨hb,?_⟩;rw[h];exact⟨v,u,rfl,hv,hu⟩
theorem read_long (s:ByteArray) (w:World) (hm:s.size≤maxLen) (hs:4000 < s.size):Calls Tryz.prog 103 #[.string s] w (ReadsPost s w):=by
 have HL:Hid (Sp.readSpec s = .error (1,0)):=if_pos hs
 have g:4000 < ((s.size:Nat):Int):=by omega
 unfold maxLen at hm
 go_enter Tryz.func103,Tryz.ntmps103
 go_wp2
 exact bodyPost_ret (v := .tuple #[.slice none 0 0,.slice none 0 0,.int .i64 1,.int .i64 0]) (by simp[results,Tryz.results103,go_sem]) rfl (reads_err (uh HL) (Below.refl _ _))
theorem read_broken (s:ByteArray) (w:World) (hs:s.size≤4000) (i:Nat) (hb:Sp.bad s=some i):Calls Tryz.prog 103 #[.string s] w (ReadsPost s w):=by
 have HL:Hid (Sp.readSpec s = .error (2,(i:Int))):=by
  show _=_;unfold Sp.readSpec;rw[if_neg (by omega),hb]
 have g:((s.size:Nat):Int)≤4000:=by omega
 have HB:Hid (Sp.badInt (Sp.bad s)=(i:Int)):=by show _=_;rw[hb];rfl
 clear hb
 go_enter Tryz.func103,Tryz.ntmps103
 go_wp2_with (go_at_call 155;refine(broken_any s _ hs).mono ?_;rintro e w' ⟨rfl,rfl⟩;rw[uh HB])
 exact bodyPost_ret (v := .tuple #[.slice none 0 0,.slice none 0 0,.int .i64 2,.int .i64 i]) (by simp[results,Tryz.results103,go_sem]) rfl (reads_err (uh HL) (Below.refl _ _))
theorem read_lines (s:ByteArray) (w:World) (hs:s.size≤4000) (hb:Sp.bad s=none):Calls Tryz.prog 103 #[.string s] w (ReadsPost s w):=by
 have HL:Hid (Sp.readSpec s=Sp.rdFrom (Sp.split s 10) 0 [] []):=by
  show _=_;unfold Sp.readSpec;rw[if_neg (by omega),hb]
 have g:((s.size:Nat):Int)≤4000:=by omega
 have HB:Hid (Sp.badInt (Sp.bad s) = -1):=by show _=_;rw[hb];rfl
 clear hb
 obtain⟨i0,hi,hz0,hz1,hz2⟩:=info_parts Tryz.info_line
 obtain⟨i1,hi1,hy0,hy1,hy2⟩:=info_parts Tryz.info_int
 have hlen:=Sp.split_len s 10
 have HS:=hde (Sp.split_size s 10)
 generalize hls:Sp.split s 10=ls at hlen HS HL
 have HLS:=hde hls
 clear hls
 go_enter Tryz.func103,Tryz.ntmps103
 go_wp2_with fail
 refine(broken_any s _ hs).mono ?_
 rintro e w ⟨rfl,rfl⟩
 rw[uh HB]
 go_wp2_with fail
 refine(split_any s 10 _ rfl (by omega) _ hs).mono ?_
 rintro e w1 ⟨V,rfl,hV,hbV⟩
 rw[uh HLS] at hV
 obtain⟨g0,cap0,rfl⟩:=own_form hV hlen.1
 go_wp2_with fail
 go_loopw [7,8,10] (fun l a i wr=>∃ (k:Nat) (L:List Sp.Ln) (A:List Nat),k≤ls.length∧L.length≤k∧A.length≤k∧i = .int .i64 k∧wr.ownsRow w.heap.size 224 4 l L.length (lnsCells L)∧wr.ownsRow w.heap.size 3 1 a A.length (numCells A) ∧
   wr.ownsRow w.heap.size 9 1 (.slice (some ⟨g0,0,none⟩) ls.length cap0) ls.length (ls.map Value.string)∧Below w.heap.size w wr∧Hid (Sp.rdFrom (ls.drop k) k L A=Sp.rdFrom ls 0 [] []))
  (fun _ _ i _=>ls.length - (intOf i).toNat)
 case atStart=>exact⟨0,[],[],Nat.zero_le _,Nat.zero_le _,Nat.zero_le _,rfl,World.ownsRow_nil _ _ _ _,World.ownsRow_nil _ _ _ _,hV,hbV,rfl⟩
 case round =>
  obtain⟨k,L,A,hk,hLk,hAk,rfl,hl,ha,hv,hbw,HR⟩:=hrel
  by_cases hlt:k < ls.length
  ·have hcx:wr.cell? ⟨g0,k,none⟩=some (.string ls[k]):=by
    rw[hv.cellAt k (by omega)];simp[hlt]
   have hxs:(ls[k]).size≤4000:=by have:=(uh HS) ls[k] (List.getElem_mem hlt);omega
   generalize hx:ls[k]=x at hcx hxs
   have HX:=hde hx
   clear hx
   by_cases he:x.size=0
   ·have hxe:x.toList.isEmpty=true:=by rw[ByteArray.toList_eq,nil_of (by omega)];rfl
    go_wp2
    go_roundw
    case rel=>exact⟨k+1,L,A,by omega,by omega,by omega,by go_num,hl,ha,hv,hbw,by show _=_;rw[← uh HR];exact(Sp.rd_empty hlt L A (by rw[uh HX];exact he)).symm⟩
    case measure=>simp[intOf];omega
   ·have hxe:x.toList.isEmpty=false:=by
     rw[ByteArray.toList_eq]
     cases hq:x.data.toList with
     | nil=>exact absurd hq (ne_nil (by omega))
     | cons _ _=>rfl
    cases hln:Sp.lineOf x with
    | none =>
     have HN:=hde hln
     clear hln
     go_wp2_with fail
     refine(read_any x _ hxs).mono ?_
     rintro e w2 ⟨l,rfl,_,hb2⟩
     rw[uh HN]
     unfold lnVal
     go_wp2
     exact bodyPost_ret (v := .tuple #[.slice none 0 0,.slice none 0 0,.int .i64 3,.int .i64 k]) (by simp[results,Tryz.results103,go_sem]) rfl (reads_err (by rw[uh HL,← uh HR];exact Sp.rd_none hlt L A (by rw[uh HX];exact he) (by rw[uh HX];exact uh HN)) ((hbw.trans (hb2.mono hbw.size)).alloc (Nat.le_trans hbw.size hb2.size) _))
    | some l =>
     have HN:=hde hln
     clear hln
     go_wp2_with fail
     refine(read_any x _ hxs).mono ?_
     rintro e w2 ⟨l',rfl,hll,hb2⟩
     obtain rfl:l'=l:=hll l (uh HN)
     rw[uh HN]
     clear hll
     unfold lnVal
     have hl2:=obl hl hb2
     have ha2:=obl ha hb2
     have hv2:=obl hv hb2
     have hbw2:=hbw.trans (hb2.mono hbw.size)
     have hB2:=hbw2.size
     clear hl ha hv hcx hb2
     go_wp2_with (first
      | (at_builtin;go_must (refine wpList_append_own _ rfl (.tmp 45) (.tmp 47) 218 rfl w.heap.size 224 i0 _ 4 32 Tryz.underlying218 hi hz0 hz1 hz2 rfl (by decide) _ _ _ rfl ((hl2.alloc _).alloc _) ⟨w2.heap.size+1,0,none⟩ 1 1 (lnCells l') rfl rfl ?c1 ?c2 ?c3 ?c4 ?c5 ?_))
      | go_in)
     case c1 =>
      intro j u hj
      match j,hj with
      | 0,hj=>simp[lnCells] at hj;subst hj;simp[Addr.add]
      | 1,hj=>simp[lnCells] at hj;subst hj;simp[Addr.add]
      | 2,hj=>simp[lnCells] at hj;subst hj;simp[Addr.add]
      | 3,hj=>simp[lnCells] at hj;subst hj;simp[Addr.add]
      | j+4,hj=>simp[lnCells] at hj
     case c2=>intro u hu;simp[lnCells] at hu;rcases hu with rfl | rfl | rfl | rfl <;> rfl
     case c3=>unfold maxLen;omega
     case c4=>omega
     case c5=>simp;omega
     intro v3 w3 hl3 hg3 _
     have hbw3:=rel_app (ys:=[]) (v':=v3) (by simp;omega) ((hl2.alloc _).alloc _) ((hbw2.alloc hB2 _).alloc (by simp;omega) _) hg3
     have ha3:=own_app ((hl2.alloc _).alloc _) ((ha2.alloc _).alloc _) (by decide) hg3
     have hv3:=own_app ((hl2.alloc _).alloc _) ((hv2.alloc _).alloc _) (by decide) hg3
     have hB3:=hbw3.size
     clear hg3 hl2 ha2 hv2 hbw2
     go_wp2_with (first
      | (at_builtin;go_must (refine wpList_append_own _ rfl (.tmp 49) (.tmp 51) 72 rfl w.heap.size 3 i1 _ 1 8 Tryz.underlying72 hi1 hy0 hy1 hy2 rfl (by decide) _ _ _ rfl (ha3.alloc _) ⟨w3.heap.size,0,none⟩ 1 1 [.int .i64 (k:Int)] rfl rfl ?d1 ?d2 ?d3 ?d4 ?d5 ?_))
      | go_in)
     case d1 =>
      intro j u hj
      match j,hj with
      | 0,hj=>simp at hj;subst hj;simp[Addr.add]
     case d2=>intro u hu;simp at hu;subst hu;rfl
     case d3=>unfold maxLen;omega
     case d4=>omega
     case d5=>simp;omega
     intro v4 w4 ha4 hg4 _
     have hbw4:=rel_app (ys:=[]) (v':=v4) (by simp;omega) (ha3.alloc _) (hbw3.alloc hB3 _) hg4
     have hl4:=own_app (ha3.alloc _) (hl3.alloc _) (by decide) hg4
     have hv4:=own_app (ha3.alloc _) (hv3.alloc _) (by decide) hg4
     clear hg4 hl3 ha3 hv3 hbw3
     go_wp2
     go_roundw
     case rel =>
      exact⟨k+1,L++[l'],A++[k],by omega,by simp;omega,by simp;omega,by go_num,by simpa [lnsCells,List.flatMap_append] using hl4,by simpa [numCells] using ha4,hv4,hbw4,by
       show _=_;rw[← uh HR];exact(Sp.rd_some hlt L A (by rw[uh HX];exact he) (by rw[uh HX];exact uh HN)).symm⟩
     case measure=>simp[intOf];omega
  ·go_wp2
   refine bodyPost_ret (v := .tuple #[_,_,.int .i64 0,.int .i64 0]) (by simp[results,Tryz.results103,go_sem]) rfl (reads_ok (L:=L) (A:=A) ?_ hbw hl ha)
   rw[uh HL,← uh HR]
   exact Sp.rd_end (by omega) L A
theorem reads_any (s:ByteArray) (w:World) (hs:s.size≤maxLen):Calls Tryz.prog 103 #[.string s] w (ReadsPost s w):=by
 by_cases h:4000 < s.size
 ·exact read_long s w hs h
 ·cases hb:Sp.bad s with
  | none=>exact read_lines s w (by omega) hb
  | some i=>exact read_broken s w (by omega) i hb
def LinesAt (w:World) (p:Option Addr) (L:List Sp.Ln):Prop :=
 ∀ k (h:k < L.length),∃ g,p=some ⟨g,0,none⟩∧w.cell? ⟨g,k * 4,none⟩=some (.bool L[k].edge)∧w.cell? ⟨g,k * 4+1,none⟩=some (.int .i64 L[k].frm)∧w.cell? ⟨g,k * 4+2,none⟩=some (.int .i64 L[k].to)∧w.cell? ⟨g,k * 4+3,none⟩=some (.int .i64 L[k].n)
theorem vertex_any (p:Option Addr) (cap:Nat) (L:List Sp.Ln) (n:Nat) (m:Int) (hm:m=(n:Int)) (a:Int) (w:World) (hn:n≤L.length) (hL:L.length≤5000) (hc:LinesAt w p L) :
  Calls Tryz.prog 157 #[.slice p L.length cap,.int .i64 m,.int .i64 a] w fun e w'=>∃ r:Int,e = .returned (.int .i64 r)∧w'=w∧(0≤r↔Sp.hasV L n a=true):=by
 subst hm
 go_enter Tryz.func157,Tryz.ntmps157
 go_wp2
 go_loop [7] (fun i=>∃ k:Nat,k≤n∧i = .int .i64 k∧Hid (Sp.hasV L k a=false)) (fun i=>n - (intOf i).toNat)
 case atStart=>exact⟨0,Nat.zero_le _,rfl,Sp.hasV_zero L a⟩
 case round =>
  obtain⟨k,hk,rfl,HV⟩:=hrel
  by_cases hlt:k < n
  ·have hkL:k < L.length:=by omega
   obtain⟨g,rfl,c0,c1,_,_⟩:=hc k hkL
   by_cases he:L[k].edge=true
   ·have HN:Hid (Sp.hasV L (k+1) a=false):=Sp.hasV_next hkL (uh HV) (by simp[Sp.isV,he])
    go_wp2
    go_round
    case rel=>exact⟨k+1,by omega,by go_num,HN⟩
    case measure=>simp[intOf];omega
   ·have he':L[k].edge=false:=by simpa using he
    by_cases hf:L[k].frm=a
    ·have HN:Hid (Sp.hasV L n a=true):=Sp.hasV_yes hkL hlt (by simp[Sp.isV,he',hf])
     have hf':(L[k].frm == a)=true:=beq_iff_eq.2 hf
     clear hf
     go_wp2
     go_ret
     exact⟨_,rfl,rfl,⟨fun _=>uh HN,fun _=>by omega⟩⟩
    ·have HN:Hid (Sp.hasV L (k+1) a=false):=Sp.hasV_next hkL (uh HV) (by simp[Sp.isV,he',hf])
     have hf':(L[k].frm == a)=false:=beq_eq_false_iff_ne.2 hf
     go_wp2
     go_round
     case rel=>exact⟨k+1,by omega,by go_num,HN⟩
     case measure=>simp[intOf];omega
  ·obtain rfl:k=n:=by omega
   go_wp2
   go_ret
   exact⟨_,rfl,rfl,⟨fun h=>by omega,fun h=>by rw[uh HV] at h;cases h⟩⟩
theorem place_any (p:Option Addr) (cap:Nat) (L:List Sp.Ln) (a:Int) (w:World) (hL:L.length≤5000) (hc:LinesAt w p L) :
  Calls Tryz.prog 105 #[.slice p L.length cap,.int .i64 a] w fun e w'=>e = .returned (.int .i64 (Sp.low L a))∧w'=w:=by
 go_enter Tryz.func105,Tryz.ntmps105
 go_wp2
 go_loop [5,6] (fun c i=>∃ k m:Nat,k≤L.length∧m≤k∧i = .int .i64 k∧c = .int .i64 m∧Hid (m=Sp.lowTo L a k)) (fun _ i=>L.length - (intOf i).toNat)
 case atStart=>exact⟨0,0,Nat.zero_le _,Nat.zero_le _,rfl,rfl,(Sp.lowTo_zero L a).symm⟩
 case round =>
  obtain⟨k,m,hk,hmk,rfl,rfl,HV⟩:=hrel
  by_cases hlt:k < L.length
  ·obtain⟨g,rfl,c0,c1,_,_⟩:=hc k hlt
   by_cases he:L[k].edge=true
   ·have HN:Hid (m=Sp.lowTo L a (k+1)):=by show _=_;rw[Sp.lowTo_no hlt (by simp[Sp.isLow,he])];exact uh HV
    go_wp2
    go_round
    case rel=>exact⟨k+1,m,by omega,by omega,by go_num,rfl,HN⟩
    case measure=>simp[intOf];omega
   ·have he':L[k].edge=false:=by simpa using he
    by_cases hf:L[k].frm < a
    ·have HN:Hid (m+1=Sp.lowTo L a (k+1)):=by show _=_;rw[Sp.lowTo_yes hlt (by simp[Sp.isLow,he',hf]),← uh HV]
     go_wp2
     go_round
     case rel=>exact⟨k+1,m+1,by omega,by omega,by go_num,by go_num,HN⟩
     case measure=>simp[intOf];omega
    ·have HN:Hid (m=Sp.lowTo L a (k+1)):=by show _=_;rw[Sp.lowTo_no hlt (by simp[Sp.isLow,he',hf])];exact uh HV
     go_wp2
     go_round
     case rel=>exact⟨k+1,m,by omega,by omega,by go_num,rfl,HN⟩
     case measure=>simp[intOf];omega
  ·have HN:Hid (m=Sp.low L a):=by show _=_;rw[uh HV];exact Sp.lowTo_all a (by omega)
   go_wp2
   go_ret
   exact⟨by rw[uh HN];rfl,rfl⟩
end Go.Proofs.YteflnddphpjahaaGreatDoor
