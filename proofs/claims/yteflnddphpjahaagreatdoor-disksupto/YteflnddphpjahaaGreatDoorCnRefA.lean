import Derived.Test.YteflnddphpjahaaGreatDoorProg
import Derived.Test.YteflnddphpjahaaGreatDoorCnPlAtoCom
import Derived.WalkKit
import Derived.Outline
set_option linter.unusedVariables false
set_option linter.unusedSimpArgs false
set_option maxRecDepth 100000
set_option maxHeartbeats 16000000
namespace Go.Proofs.YteflnddphpjahaaGreatDoor
open Go.RowKit
theorem more_yes (s:ByteArray) (i:Nat) (n:Int) (hn:n=(i:Int)) (w:World) (hs:s.size≤4000) (h:Sp.moreB s i=true) :
  Calls Tryz.prog 293 #[.string s,.int .i64 n] w fun e w'=>e = .returned (.tuple #[.int .i64 (Sp.moreV s i),.bool true])∧w'=w:=by
 subst hn
 rw[Sp.moreV_true h]
 obtain⟨h1,h2,h3⟩:=Sp.moreB_true h
 rw[← Sp.bt_of s i h1] at h2 h3 ⊢
 have h2':128≤((s[i].toNat:Nat):Int):=by omega
 have h3':((s[i].toNat:Nat):Int) < 192:=by omega
 clear h h2 h3
 go_enter Tryz.func293,Tryz.ntmps293
 go_wp2
 go_ret2
 exact⟨rfl,rfl⟩
theorem more_no (s:ByteArray) (i:Nat) (n:Int) (hn:n=(i:Int)) (w:World) (hs:s.size≤4000) (hi:i≤5000) (h:Sp.moreB s i=false) :
  Calls Tryz.prog 293 #[.string s,.int .i64 n] w fun e w'=>e = .returned (.tuple #[.int .i64 0,.bool false])∧w'=w:=by
 subst hn
 have hm:=Sp.moreB_false h
 clear h
 by_cases h1:i < s.size
 ·rw[← Sp.bt_of s i h1] at hm
  by_cases h2:((s[i].toNat:Nat):Int) < 128
  ·clear hm
   go_enter Tryz.func293,Tryz.ntmps293
   go_wp2
   go_ret2
   exact⟨rfl,rfl⟩
  ·have h3:192≤((s[i].toNat:Nat):Int):=by omega
   clear hm
   go_enter Tryz.func293,Tryz.ntmps293
   go_wp2
   go_ret2
   exact⟨rfl,rfl⟩
 ·have h1':s.size≤i:=by omega
  clear hm
  go_enter Tryz.func293,Tryz.ntmps293
  go_wp2
  go_ret2
  exact⟨rfl,rfl⟩
theorem least_2 (w:World):Calls Tryz.prog 294 #[.int .i64 2] w fun e w'=>e = .returned (.int .i64 128)∧w'=w:=by
 go_enter Tryz.func294,Tryz.ntmps294
 go_wp2
 go_ret
 exact⟨rfl,rfl⟩
theorem least_3 (w:World):Calls Tryz.prog 294 #[.int .i64 3] w fun e w'=>e = .returned (.int .i64 2048)∧w'=w:=by
 go_enter Tryz.func294,Tryz.ntmps294
 go_wp2
 go_ret
 exact⟨rfl,rfl⟩
theorem least_4 (w:World):Calls Tryz.prog 294 #[.int .i64 4] w fun e w'=>e = .returned (.int .i64 65536)∧w'=w:=by
 go_enter Tryz.func294,Tryz.ntmps294
 go_wp2
 go_ret
 exact⟨rfl,rfl⟩
theorem least_0 (w:World):Calls Tryz.prog 294 #[.int .i64 0] w fun e w'=>e = .returned (.int .i64 0)∧w'=w:=by
 go_enter Tryz.func294,Tryz.ntmps294
 go_wp2
 go_ret
 exact⟨rfl,rfl⟩
theorem rune_ascii (s:ByteArray) (i:Nat) (w:World) (hs:s.size≤4000) (hi:i < s.size) (h:Sp.bt s i < 128) :
  Calls Tryz.prog 236 #[.string s,.int .i64 i] w fun e w'=>e = .returned (.tuple #[.int .i64 (Sp.refRune s i).1,.int .i64 (Sp.refRune s i).2])∧w'=w:=by
 rw[Sp.ref_ascii h]
 rw[← Sp.bt_of s i hi] at h ⊢
 have h':((s[i].toNat:Nat):Int) < 128:=by omega
 clear h
 go_enter Tryz.func236,Tryz.ntmps236
 go_wp2
 go_ret2
 exact⟨rfl,rfl⟩
theorem rune_none1 (s:ByteArray) (i:Nat) (w:World) (hs:s.size≤4000) (hi:i < s.size) (h:128≤Sp.bt s i∧Sp.bt s i < 192) :
  Calls Tryz.prog 236 #[.string s,.int .i64 i] w fun e w'=>e = .returned (.tuple #[.int .i64 (Sp.refRune s i).1,.int .i64 (Sp.refRune s i).2])∧w'=w:=by
 rw[Sp.ref_none (Or.inl h)]
 rw[← Sp.bt_of s i hi] at h
 have h1:128≤((s[i].toNat:Nat):Int):=by omega
 have h2:((s[i].toNat:Nat):Int) < 192:=by omega
 clear h
 go_enter Tryz.func236,Tryz.ntmps236
 go_wp2
 go_loop [8,9] (fun r k=>r = .int .i64 0∧k = .int .i64 1) (fun _ _=>0)
 case atStart=>exact⟨rfl,rfl⟩
 case round =>
  obtain⟨rfl,rfl⟩:=hrel
  go_wp2_with (go_at_call 294;refine(least_0 _).mono ?_;rintro e w' ⟨rfl,rfl⟩)
  go_ret2
  exact⟨rfl,rfl⟩
theorem rune_none2 (s:ByteArray) (i:Nat) (w:World) (hs:s.size≤4000) (hi:i < s.size) (h:248≤Sp.bt s i) :
  Calls Tryz.prog 236 #[.string s,.int .i64 i] w fun e w'=>e = .returned (.tuple #[.int .i64 (Sp.refRune s i).1,.int .i64 (Sp.refRune s i).2])∧w'=w:=by
 rw[Sp.ref_none (Or.inr h)]
 rw[← Sp.bt_of s i hi] at h
 have h1:248≤((s[i].toNat:Nat):Int):=by omega
 have h2:((s[i].toNat:Nat):Int) < 256:=by have:=s[i].toNat_lt;omega
 clear h
 go_enter Tryz.func236,Tryz.ntmps236
 go_wp2
 go_loop [8,9] (fun r k=>r = .int .i64 0∧k = .int .i64 1) (fun _ _=>0)
 case atStart=>exact⟨rfl,rfl⟩
 case round =>
  obtain⟨rfl,rfl⟩:=hrel
  go_wp2_with (go_at_call 294;refine(least_0 _).mono ?_;rintro e w' ⟨rfl,rfl⟩)
  go_ret2
  exact⟨rfl,rfl⟩
theorem rune_2 (s:ByteArray) (i:Nat) (w:World) (hs:s.size≤4000) (hi:i < s.size) (h:192≤Sp.bt s i) (h':Sp.bt s i < 224) :
  Calls Tryz.prog 236 #[.string s,.int .i64 i] w fun e w'=>e = .returned (.tuple #[.int .i64 (Sp.refRune s i).1,.int .i64 (Sp.refRune s i).2])∧w'=w:=by
 have hs':=hs
 have eb:=Sp.bt_of s i hi
 have g1:192≤((Sp.bt s i:Nat):Int):=by omega
 have g2:((Sp.bt s i:Nat):Int) < 224:=by omega
 go_enter Tryz.func236,Tryz.ntmps236
 go_wp2
 go_loop [8,9] (fun r k=>∃ n:Nat,n≤1∧k = .int .i64 (n+1)∧r = .int .i64 (Sp.acc s i ((Sp.bt s i:Int) - 192) n)∧(∀ j,1≤j→j≤n→Sp.moreB s (i+j)=true)) (fun _ k=>2 - (intOf k).toNat)
 case atStart=>exact⟨0,by omega,rfl,rfl,fun j h1 h2=>by omega⟩
 case round =>
  obtain⟨n,hn,rfl,rfl,hm⟩:=hrel
  have hb:=Sp.acc_bd s i ((Sp.bt s i:Int) - 192) (by omega) (by omega) n (by omega)
  obtain rfl | rfl:n=0∨n=1:=by omega
  ·have hv:=Sp.moreV_bd s (i+1)
   cases hq:Sp.moreB s (i+1) with
   | true =>
    go_wp2_with (go_at_call 293;refine(more_yes s (i+1) _ (by omega) _ hs' hq).mono ?_;rintro e w' ⟨rfl,rfl⟩)
    go_round
    case rel=>exact⟨1,by omega,by go_num,rfl,fun j h1 h2=>by
     by_cases ej:j=1
     ·subst ej;exact hq
     ·exact hm j h1 (by omega)⟩
    case measure=>simp[intOf]
   | false =>
    go_wp2_with (go_at_call 293;refine(more_no s (i+1) _ (by omega) _ hs' (by omega) hq).mono ?_;rintro e w' ⟨rfl,rfl⟩)
    go_ret2
    exact⟨by rw[Sp.ref_bad2 hi h h' hq];rfl,rfl⟩
  ·have hf:=Sp.ref_2 hi h h' (hm 1 (by omega) (by omega))
   clear hm
   have HF:=hde hf
   clear hf
   by_cases c1:(Sp.acc s i ((Sp.bt s i:Int) - 192) 1) < 128
   ·go_wp2_with (go_at_call 294;refine(least_2 _).mono ?_;rintro e w' ⟨rfl,rfl⟩)
    go_ret2
    exact⟨by rw[uh HF,if_pos (Or.inl c1)];rfl,rfl⟩
   by_cases c2:(Sp.acc s i ((Sp.bt s i:Int) - 192) 1) > 1114111
   ·go_wp2_with (go_at_call 294;refine(least_2 _).mono ?_;rintro e w' ⟨rfl,rfl⟩)
    go_ret2
    exact⟨by rw[uh HF,if_pos (Or.inr (Or.inl c2))];rfl,rfl⟩
   by_cases c3:55296≤(Sp.acc s i ((Sp.bt s i:Int) - 192) 1)
   ·by_cases c4:(Sp.acc s i ((Sp.bt s i:Int) - 192) 1) < 57344
    ·go_wp2_with (go_at_call 294;refine(least_2 _).mono ?_;rintro e w' ⟨rfl,rfl⟩)
     go_ret2
     exact⟨by rw[uh HF,if_pos (Or.inr (Or.inr ⟨c3,c4⟩))];rfl,rfl⟩
    ·go_wp2_with (go_at_call 294;refine(least_2 _).mono ?_;rintro e w' ⟨rfl,rfl⟩)
     go_ret2
     exact⟨by rw[uh HF,if_neg (by omega)];rfl,rfl⟩
   ·go_wp2_with (go_at_call 294;refine(least_2 _).mono ?_;rintro e w' ⟨rfl,rfl⟩)
    go_ret2
    exact⟨by rw[uh HF,if_neg (by omega)];rfl,rfl⟩
theorem rune_3 (s:ByteArray) (i:Nat) (w:World) (hs:s.size≤4000) (hi:i < s.size) (h:224≤Sp.bt s i) (h':Sp.bt s i < 240) :
  Calls Tryz.prog 236 #[.string s,.int .i64 i] w fun e w'=>e = .returned (.tuple #[.int .i64 (Sp.refRune s i).1,.int .i64 (Sp.refRune s i).2])∧w'=w:=by
 have hs':=hs
 have eb:=Sp.bt_of s i hi
 have g1:224≤((Sp.bt s i:Nat):Int):=by omega
 have g2:((Sp.bt s i:Nat):Int) < 240:=by omega
 go_enter Tryz.func236,Tryz.ntmps236
 go_wp2
 go_loop [8,9] (fun r k=>∃ n:Nat,n≤2∧k = .int .i64 (n+1)∧r = .int .i64 (Sp.acc s i ((Sp.bt s i:Int) - 224) n)∧(∀ j,1≤j→j≤n→Sp.moreB s (i+j)=true)) (fun _ k=>3 - (intOf k).toNat)
 case atStart=>exact⟨0,by omega,rfl,rfl,fun j h1 h2=>by omega⟩
 case round =>
  obtain⟨n,hn,rfl,rfl,hm⟩:=hrel
  have hb:=Sp.acc_bd s i ((Sp.bt s i:Int) - 224) (by omega) (by omega) n (by omega)
  obtain rfl | rfl | rfl:n=0∨n=1∨n=2:=by omega
  ·have hv:=Sp.moreV_bd s (i+1)
   cases hq:Sp.moreB s (i+1) with
   | true =>
    go_wp2_with (go_at_call 293;refine(more_yes s (i+1) _ (by omega) _ hs' hq).mono ?_;rintro e w' ⟨rfl,rfl⟩)
    go_round
    case rel=>exact⟨1,by omega,by go_num,rfl,fun j h1 h2=>by
     by_cases ej:j=1
     ·subst ej;exact hq
     ·exact hm j h1 (by omega)⟩
    case measure=>simp[intOf]
   | false =>
    go_wp2_with (go_at_call 293;refine(more_no s (i+1) _ (by omega) _ hs' (by omega) hq).mono ?_;rintro e w' ⟨rfl,rfl⟩)
    go_ret2
    exact⟨by rw[Sp.ref_bad3 hi h h' (Or.inl hq)];rfl,rfl⟩
  ·have hv:=Sp.moreV_bd s (i+2)
   cases hq:Sp.moreB s (i+2) with
   | true =>
    go_wp2_with (go_at_call 293;refine(more_yes s (i+2) _ (by omega) _ hs' hq).mono ?_;rintro e w' ⟨rfl,rfl⟩)
    go_round
    case rel=>exact⟨2,by omega,by go_num,rfl,fun j h1 h2=>by
     by_cases ej:j=2
     ·subst ej;exact hq
     ·exact hm j h1 (by omega)⟩
    case measure=>simp[intOf]
   | false =>
    go_wp2_with (go_at_call 293;refine(more_no s (i+2) _ (by omega) _ hs' (by omega) hq).mono ?_;rintro e w' ⟨rfl,rfl⟩)
    go_ret2
    exact⟨by rw[Sp.ref_bad3 hi h h' (Or.inr hq)];rfl,rfl⟩
  ·have hf:=Sp.ref_3 hi h h' (hm 1 (by omega) (by omega)) (hm 2 (by omega) (by omega))
   clear hm
   have HF:=hde hf
   clear hf
   by_cases c1:(Sp.acc s i ((Sp.bt s i:Int) - 224) 2) < 2048
   ·go_wp2_with (go_at_call 294;refine(least_3 _).mono ?_;rintro e w' ⟨rfl,rfl⟩)
    go_ret2
    exact⟨by rw[uh HF,if_pos (Or.inl c1)];rfl,rfl⟩
   by_cases c2:(Sp.acc s i ((Sp.bt s i:Int) - 224) 2) > 1114111
   ·go_wp2_with (go_at_call 294;refine(least_3 _).mono ?_;rintro e w' ⟨rfl,rfl⟩)
    go_ret2
    exact⟨by rw[uh HF,if_pos (Or.inr (Or.inl c2))];rfl,rfl⟩
   by_cases c3:55296≤(Sp.acc s i ((Sp.bt s i:Int) - 224) 2)
   ·by_cases c4:(Sp.acc s i ((Sp.bt s i:Int) - 224) 2) < 57344
    ·go_wp2_with (go_at_call 294;refine(least_3 _).mono ?_;rintro e w' ⟨rfl,rfl⟩)
     go_ret2
     exact⟨by rw[uh HF,if_pos (Or.inr (Or.inr ⟨c3,c4⟩))];rfl,rfl⟩
    ·go_wp2_with (go_at_call 294;refine(least_3 _).mono ?_;rintro e w' ⟨rfl,rfl⟩)
     go_ret2
     exact⟨by rw[uh HF,if_neg (by omega)];rfl,rfl⟩
   ·go_wp2_with (go_at_call 294;refine(least_3 _).mono ?_;rintro e w' ⟨rfl,rfl⟩)
    go_ret2
    exact⟨by rw[uh HF,if_neg (by omega)];rfl,rfl⟩
theorem rune_4 (s:ByteArray) (i:Nat) (w:World) (hs:s.size≤4000) (hi:i < s.size) (h:240≤Sp.bt s i) (h':Sp.bt s i < 248) :
  Calls Tryz.prog 236 #[.string s,.int .i64 i] w fun e w'=>e = .returned (.tuple #[.int .i64 (Sp.refRune s i).1,.int .i64 (Sp.refRune s i).2])∧w'=w:=by
 have hs':=hs
 have eb:=Sp.bt_of s i hi
 have g1:240≤((Sp.bt s i:Nat):Int):=by omega
 have g2:((Sp.bt s i:Nat):Int) < 248:=by omega
 go_enter Tryz.func236,Tryz.ntmps236
 go_wp2
 go_loop [8,9] (fun r k=>∃ n:Nat,n≤3∧k = .int .i64 (n+1)∧r = .int .i64 (Sp.acc s i ((Sp.bt s i:Int) - 240) n)∧(∀ j,1≤j→j≤n→Sp.moreB s (i+j)=true)) (fun _ k=>4 - (intOf k).toNat)
 case atStart=>exact⟨0,by omega,rfl,rfl,fun j h1 h2=>by omega⟩
 case round =>
  obtain⟨n,hn,rfl,rfl,hm⟩:=hrel
  have hb:=Sp.acc_bd s i ((Sp.bt s i:Int) - 240) (by omega) (by omega) n (by omega)
  obtain rfl | rfl | rfl | rfl:n=0∨n=1∨n=2∨n=3:=by omega
  ·have hv:=Sp.moreV_bd s (i+1)
   cases hq:Sp.moreB s (i+1) with
   | true =>
    go_wp2_with (go_at_call 293;refine(more_yes s (i+1) _ (by omega) _ hs' hq).mono ?_;rintro e w' ⟨rfl,rfl⟩)
    go_round
    case rel=>exact⟨1,by omega,by go_num,rfl,fun j h1 h2=>by
     by_cases ej:j=1
     ·subst ej;exact hq
     ·exact hm j h1 (by omega)⟩
    case measure=>simp[intOf]
   | false =>
    go_wp2_with (go_at_call 293;refine(more_no s (i+1) _ (by omega) _ hs' (by omega) hq).mono ?_;rintro e w' ⟨rfl,rfl⟩)
    go_ret2
    exact⟨by rw[Sp.ref_bad4 hi h h' (Or.inl hq)];rfl,rfl⟩
  ·have hv:=Sp.moreV_bd s (i+2)
   cases hq:Sp.moreB s (i+2) with
   | true =>
    go_wp2_with (go_at_call 293;refine(more_yes s (i+2) _ (by omega) _ hs' hq).mono ?_;rintro e w' ⟨rfl,rfl⟩)
    go_round
    case rel=>exact⟨2,by omega,by go_num,rfl,fun j h1 h2=>by
     by_cases ej:j=2
     ·subst ej;exact hq
     ·exact hm j h1 (by omega)⟩
    case measure=>simp[intOf]
   | false =>
    go_wp2_with (go_at_call 293;refine(more_no s (i+2) _ (by omega) _ hs' (by omega) hq).mono ?_;rintro e w' ⟨rfl,rfl⟩)
    go_ret2
    exact⟨by rw[Sp.ref_bad4 hi h h' (Or.inr (Or.inl hq))];rfl,rfl⟩
  ·have hv:=Sp.moreV_bd s (i+3)
   cases hq:Sp.moreB s (i+3) with
   | true =>
    go_wp2_with (go_at_call 293;refine(more_yes s (i+3) _ (by omega) _ hs' hq).mono ?_;rintro e w' ⟨rfl,rfl⟩)
    go_round
    case rel=>exact⟨3,by omega,by go_num,rfl,fun j h1 h2=>by
     by_cases ej:j=3
     ·subst ej;exact hq
     ·exact hm j h1 (by omega)⟩
    case measure=>simp[intOf]
   | false =>
    go_wp2_with (go_at_call 293;refine(more_no s (i+3) _ (by omega) _ hs' (by omega) hq).mono ?_;rintro e w' ⟨rfl,rfl⟩)
    go_ret2
    exact⟨by rw[Sp.ref_bad4 hi h h' (Or.inr (Or.inr hq))];rfl,rfl⟩
  ·have hf:=Sp.ref_4 hi h h' (hm 1 (by omega) (by omega)) (hm 2 (by omega) (by omega)) (hm 3 (by omega) (by omega))
   clear hm
   have HF:=hde hf
   clear hf
   by_cases c1:(Sp.acc s i ((Sp.bt s i:Int) - 240) 3) < 65536
   ·go_wp2_with (go_at_call 294;refine(least_4 _).mono ?_;rintro e w' ⟨rfl,rfl⟩)
    go_ret2
    exact⟨by rw[uh HF,if_pos (Or.inl c1)];rfl,rfl⟩
   by_cases c2:(Sp.acc s i ((Sp.bt s i:Int) - 240) 3) > 1114111
   ·go_wp2_with (go_at_call 294;refine(least_4 _).mono ?_;rintro e w' ⟨rfl,rfl⟩)
    go_ret2
    exact⟨by rw[uh HF,if_pos (Or.inr (Or.inl c2))];rfl,rfl⟩
   by_cases c3:55296≤(Sp.acc s i ((Sp.bt s i:Int) - 240) 3)
   ·by_cases c4:(Sp.acc s i ((Sp.bt s i:Int) - 240) 3) < 57344
    ·go_wp2_with (go_at_call 294;refine(least_4 _).mono ?_;rintro e w' ⟨rfl,rfl⟩)
     go_ret2
     exact⟨by rw[uh HF,if_pos (Or.inr (Or.inr ⟨c3,c4⟩))];rfl,rfl⟩
    ·go_wp2_with (go_at_call 294;refine(least_4 _).mono ?_;rintro e w' ⟨rfl,rfl⟩)
     go_ret2
     exact⟨by rw[uh HF,if_neg (by omega)];rfl,rfl⟩
   ·exfalso;omega
theorem rune_any (s:ByteArray) (i:Nat) (n:Int) (hn:n=(i:Int)) (w:World) (hs:s.size≤4000) (hi:i < s.size) :
  Calls Tryz.prog 236 #[.string s,.int .i64 n] w fun e w'=>e = .returned (.tuple #[.int .i64 (Sp.refRune s i).1,.int .i64 (Sp.refRune s i).2])∧w'=w:=by
 subst hn
 have hb:=Sp.bt_lt s i
 by_cases h1:Sp.bt s i < 128
 ·exact rune_ascii s i w hs hi h1
 by_cases h2:Sp.bt s i < 192
 ·exact rune_none1 s i w hs hi ⟨by omega,h2⟩
 by_cases h3:Sp.bt s i < 224
 ·exact rune_2 s i w hs hi (by omega) h3
 by_cases h4:Sp.bt s i < 240
 ·exact rune_3 s i w hs hi (by omega) h4
 by_cases h5:Sp.bt s i < 248
 ·exact rune_4 s i w hs hi (by omega) h5
 ·exact rune_none2 s i w hs hi (by omega)
end Go.Proofs.YteflnddphpjahaaGreatDoor
