import Derived.Test.YteflnddphpjahaaGreatDoorCnDlO
set_option linter.unusedVariables false
set_option linter.unusedSimpArgs false
set_option maxRecDepth 100000
set_option maxHeartbeats 16000000
namespace Go.Proofs.YteflnddphpjahaaGreatDoor.Dl
open Go.RowKit
open Dk (Kept own_kept)
theorem does_any (w0 w:World) (W:Nat) (Ps:List Pr) (vd vr:Value) (N:Nat) (vT vI:Value) (ht hi:List (Value × Int)) (n b i:Nat) (o:Op) (hk:o.k < 8) (h:Inv w0 w W Ps vd vr N vT vI ht hi n b) (hil:i < Ps.length) (hn:n≤100000) (hb:b≤1048576) (hs:o.s.size≤1048576) (hts:o.t.size≤1048576) :
  Calls Tryz.prog 93 #[.pointer (some ⟨W,0,none⟩),.int .i64 (i:Int),.agg o.cells] w (StPost w0 W Ps.length (n+1) (b+o.t.size) N ht.length hi.length):=by
 by_cases h2:o.k=2
 ·exact does_create w0 w W Ps vd vr N vT vI ht hi n b i o h2 h hil hn hb hs hts
 by_cases h3:o.k=3
 ·exact does_append w0 w W Ps vd vr N vT vI ht hi n b i o h3 h hil hn hb hs hts
 by_cases h4:o.k=4
 ·exact does_sync w0 w W Ps vd vr N vT vI ht hi n b i o h4 h hil hn hb hs hts
 by_cases h5:o.k=5
 ·exact does_rename w0 w W Ps vd vr N vT vI ht hi n b i o h5 h hil hn hb hs hts
 by_cases h6:o.k=6
 ·exact does_remove w0 w W Ps vd vr N vT vI ht hi n b i o h6 h hil hn hb hs hts
 by_cases h7:o.k=7
 ·exact does_syncDir w0 w W Ps vd vr N vT vI ht hi n b i o h7 h hil hn hb hs hts
 refine(does_other w0 w W Ps vd vr N vT vI ht hi n b i o (by omega) h hil).mono ?_
 intro e w' hp
 exact hp.mono (by omega) (by omega)
theorem disk_does (w0 w:World) (W:Nat) (Ps:List Pr) (vd vr:Value) (N:Nat) (vT vI:Value) (ht hi:List (Value × Int)) (n b i:Nat) (o:Op) (hk:o.k < 8) (h:Inv w0 w W Ps vd vr N vT vI ht hi n b) (hil:i < Ps.length) (hn:n≤100000) (hb:b≤1048576) (hs:o.s.size≤1048576) (hts:o.t.size≤1048576) :
  Calls Tryz.prog 47 #[.pointer (some ⟨W,0,none⟩),.int .i64 (i:Int),.agg o.cells] w (StPost w0 W Ps.length (n+1) (b+o.t.size) N ht.length hi.length):=by
 obtain⟨ok,oa,okk,s,t,kv,c0,c1,c2⟩:=o
 have h1:=h.below ((Below.refl _ w).alloc nlr (.cells #[.int .i64 ok,.int .i64 oa,.int .i64 okk,.string s,.string t,kv,.int .i64 c0,.int .i64 c1,.int .i64 c2] 102))
 have hC:=does_any w0 _ W Ps vd vr N vT vI ht hi n b i ⟨ok,oa,okk,s,t,kv,c0,c1,c2⟩ hk h1 hil hn hb hs hts
 simp only at hk hs hts hC ⊢
 unfold Op.cells at hC ⊢
 have k8:(ok == 8)=false:=beq_eq_false_iff_ne.2 (by omega)
 have k9:(ok == 9)=false:=beq_eq_false_iff_ne.2 (by omega)
 have k10:(ok == 10)=false:=beq_eq_false_iff_ne.2 (by omega)
 have k11:(ok == 11)=false:=beq_eq_false_iff_ne.2 (by omega)
 have k12:(ok == 12)=false:=beq_eq_false_iff_ne.2 (by omega)
 have k13:(ok == 13)=false:=beq_eq_false_iff_ne.2 (by omega)
 have k14:(ok == 14)=false:=beq_eq_false_iff_ne.2 (by omega)
 clear h h1 hk
 go_enter Tryz.func47,Tryz.ntmps47
 go_wp2_with fail
 refine hC.mono ?_
 rintro e w1 hp
 obtain rfl:=hp.1
 have HR:=hde hp
 clear hp hC
 go_wp2
 go_ret
 exact uh HR
theorem disk_any (w0 w:World) (W:Nat) (Ps:List Pr) (vd vr:Value) (N:Nat) (vT vI:Value) (ht hi:List (Value × Int)) (n b i:Nat) (o:Op) (hk:o.k≤13) (h:Inv w0 w W Ps vd vr N vT vI ht hi n b) (hil:i < Ps.length) (hn:n≤100000) (hb:b≤1048576) (hN:N+1≤10000000) (hht:ht.length+4≤10000000) (hhi:hi.length+1≤10000000) (ha:o.a≤9223372036854775807) (hs:o.s.size≤1048576) (hts:o.t.size≤1048576) (kpp:Option Addr) (kn kc:Nat) (K:Nat→Int) (hkv:o.kv = .slice kpp kn kc) (hK:Rd.KpAt w0 kpp kn K) (hkn:kn≤1048576) :
  Calls Tryz.prog 47 #[.pointer (some ⟨W,0,none⟩),.int .i64 (i:Int),.agg o.cells] w (StPost w0 W Ps.length (n+1) (b+o.t.size) N ht.length hi.length):=by
 by_cases h8:o.k=8
 ·exact disk_list w0 w W Ps vd vr N vT vI ht hi n b i o h8 h hil hn hb hN hht hhi ha hs hts kpp kn kc K hkv hK hkn
 by_cases h9:o.k=9
 ·exact disk_read w0 w W Ps vd vr N vT vI ht hi n b i o h9 h hil hn hb hN hht hhi ha hs hts kpp kn kc K hkv hK hkn
 by_cases h10:o.k=10
 ·exact disk_used w0 w W Ps vd vr N vT vI ht hi n b i o h10 h hil hn hb hN hht hhi ha hs hts kpp kn kc K hkv hK hkn
 by_cases h11:o.k=11
 ·exact disk_quota w0 w W Ps vd vr N vT vI ht hi n b i o h11 h hil hn hb hN hht hhi ha hs hts kpp kn kc K hkv hK hkn
 by_cases h12:o.k=12
 ·exact disk_arm w0 w W Ps vd vr N vT vI ht hi n b i o h12 h hil hn hb hN hht hhi ha hs hts kpp kn kc K hkv hK hkn
 by_cases h13:o.k=13
 ·exact disk_crash w0 w W Ps vd vr N vT vI ht hi n b i o h13 h hil hn hb hN hht hhi ha hs hts kpp kn kc K hkv hK hkn
 exact disk_does w0 w W Ps vd vr N vT vI ht hi n b i o (by omega) h hil hn hb hs hts
end Go.Proofs.YteflnddphpjahaaGreatDoor.Dl
