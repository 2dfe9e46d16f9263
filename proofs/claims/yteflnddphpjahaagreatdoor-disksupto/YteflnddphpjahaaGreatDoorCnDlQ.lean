import Derived.Test.YteflnddphpjahaaGreatDoorCnDlP
set_option linter.unusedVariables false
set_option linter.unusedSimpArgs false
set_option maxRecDepth 100000
set_option maxHeartbeats 16000000
namespace Go.Proofs.YteflnddphpjahaaGreatDoor.Dl
open Go.RowKit
open Dk (Kept own_kept)
theorem tmod_bd {a:Int} {n:Nat} (ha:0≤a) (hn:0 < n):∃ r:Nat,a.tmod (n:Int)=(r:Int)∧r < n:=by
 have h1:=Int.tmod_nonneg (n:Int) ha
 have h2:=Int.tmod_lt_of_pos a (show (0:Int) < (n:Int) by omega)
 exact⟨(a.tmod (n:Int)).toNat,by omega,by omega⟩
def pk (c:Int) (n:Nat):Nat:=((if c < 0 then -(c+1) else c).tmod (n:Int)).toNat
theorem pk_lt (c:Int) {n:Nat} (hn:0 < n):pk c n < n:=by
 unfold pk
 obtain⟨r,h1,h2⟩:=tmod_bd (a:=if c < 0 then -(c+1) else c) (n:=n) (by split <;> omega) hn
 omega
theorem pk_any (c:Int) (n:Nat) (w:World) (h1 : -9223372036854775808≤c) (h2:c≤9223372036854775807) (hn:0 < n) (hn2:n≤9223372036854775807) :
  Calls Tryz.prog 48 #[.int .i64 c,.int .i64 n] w fun e w'=>e = .returned (.int .i64 (pk c n))∧w'=w:=by
 by_cases hc:c < 0
 ·obtain⟨r,hr,hlt⟩:=tmod_bd (a := -(c+1)) (n:=n) (by omega) hn
  have HR:=hde hr
  have HPK:Hid (pk c n=r):=by show _=_;unfold pk;rw[if_pos hc,hr];exact Int.toNat_natCast r
  clear hr
  go_enter Tryz.func48,Tryz.ntmps48
  go_wp2
  go_ret
  exact⟨by rw[uh HPK];have h:=uh HR;rw[Int.neg_tmod] at h;rw[h];rfl,rfl⟩
 ·obtain⟨r,hr,hlt⟩:=tmod_bd (a:=c) (n:=n) (by omega) hn
  have HR:=hde hr
  have HPK:Hid (pk c n=r):=by show _=_;unfold pk;rw[if_neg hc,hr];exact Int.toNat_natCast r
  clear hr
  go_enter Tryz.func48,Tryz.ntmps48
  go_wp2
  go_ret
  exact⟨by rw[uh HPK];have h:=uh HR;rw[Int.tmod_eq_emod_of_nonneg hc] at h;rw[h];rfl,rfl⟩
def SpPost (w0:World) (W m n b N0 T0 I0:Nat) (e:Ending) (w':World):Prop := ∃ m',m'≤m+1∧StPost w0 W m' n b N0 T0 I0 e w'
theorem step_new (w0 w:World) (W:Nat) (Ps:List Pr) (vd vr:Value) (N:Nat) (vT vI:Value) (ht hi:List (Value × Int)) (n b:Nat) (o:Op) (hk:o.k=1) (h:Inv w0 w W Ps vd vr N vT vI ht hi n b) (hm:Ps.length≤1000000) :
  Calls Tryz.prog 27 #[.pointer (some ⟨W,0,none⟩),.agg o.cells] w (SpPost w0 W Ps.length (n+1) (b+o.t.size) N ht.length hi.length):=by
 obtain⟨ok,oa,okk,s,t,kv,c0,c1,c2⟩:=o
 simp only at hk
 subst hk
 have h1:=h.below ((Below.refl _ w).alloc nlr (.cells #[.int .i64 1,.int .i64 oa,.int .i64 okk,.string s,.string t,kv,.int .i64 c0,.int .i64 c1,.int .i64 c2] 102))
 have hC:=news_any w0 _ W Ps vd vr N vT vI ht hi n b oa h1 hm
 unfold Op.cells
 clear h h1
 go_enter Tryz.func27,Tryz.ntmps27
 go_wp2_with fail
 refine hC.mono ?_
 rintro e w1 hp
 obtain rfl:=hp.1
 have HR:=hde (hp.mono (Nat.le_succ n) (Nat.le_add_right b t.size))
 clear hp hC
 go_wp2
 go_ret
 exact⟨_,Nat.le_refl _,uh HR⟩
theorem step_disk (w0 w:World) (W:Nat) (Ps:List Pr) (vd vr:Value) (N:Nat) (vT vI:Value) (ht hi:List (Value × Int)) (n b:Nat) (o:Op) (hk:o.k≤13) (hk1:¬ o.k=1) (h:Inv w0 w W Ps vd vr N vT vI ht hi n b) (hm:Ps.length≤1000000) (hn:n≤100000) (hb:b≤1048576) (hN:N+1≤10000000) (hht:ht.length+4≤10000000) (hhi:hi.length+1≤10000000) (ha:o.a≤9223372036854775807) (hkk1 : -9223372036854775808≤o.kk) (hkk2:o.kk≤9223372036854775807) (hs:o.s.size≤1048576) (hts:o.t.size≤1048576) (kpp:Option Addr) (kn kc:Nat) (K:Nat→Int) (hkv:o.kv = .slice kpp kn kc) (hK:Rd.KpAt w0 kpp kn K) (hkn:kn≤1048576) :
  Calls Tryz.prog 27 #[.pointer (some ⟨W,0,none⟩),.agg o.cells] w (SpPost w0 W Ps.length (n+1) (b+o.t.size) N ht.length hi.length):=by
 obtain⟨ok,oa,okk,s,t,kv,c0,c1,c2⟩:=o
 simp only at hkv
 subst hkv
 have h1:=h.below ((Below.refl _ w).alloc nlr (.cells #[.int .i64 ok,.int .i64 oa,.int .i64 okk,.string s,.string t,.slice kpp kn kc,.int .i64 c0,.int .i64 c1,.int .i64 c2] 102))
 have hD:∀ X,Below (w.alloc (.cells #[.int .i64 ok,.int .i64 oa,.int .i64 okk,.string s,.string t,.slice kpp kn kc,.int .i64 c0,.int .i64 c1,.int .i64 c2] 102)).heap.size (w.alloc (.cells #[.int .i64 ok,.int .i64 oa,.int .i64 okk,.string s,.string t,.slice kpp kn kc,.int .i64 c0,.int .i64 c1,.int .i64 c2] 102)) X→∀ i,i < Ps.length→Calls Tryz.prog 47 #[.pointer (some ⟨W,0,none⟩),.int .i64 (i:Int),.agg #[.int .i64 ok,.int .i64 oa,.int .i64 okk,.string s,.string t,.slice kpp kn kc,.int .i64 c0,.int .i64 c1,.int .i64 c2]] X (StPost w0 W Ps.length (n+1) (b+t.size) N ht.length hi.length):=fun X hX i hi'=>disk_any w0 X W Ps vd vr N vT vI ht hi n b i ⟨ok,oa,okk,s,t,.slice kpp kn kc,c0,c1,c2⟩ hk (h1.below hX) hi' hn hb hN hht hhi ha hs hts kpp kn kc K rfl hK hkn
 simp only at hk hk1 hs hts ha hkk1 hkk2 ⊢
 unfold Op.cells
 have k1:(ok == 1)=false:=beq_eq_false_iff_ne.2 hk1
 have k15:(ok == 15)=false:=beq_eq_false_iff_ne.2 (by omega)
 have k16:(ok == 16)=false:=beq_eq_false_iff_ne.2 (by omega)
 have k17:(ok == 17)=false:=beq_eq_false_iff_ne.2 (by omega)
 have k18:(ok == 18)=false:=beq_eq_false_iff_ne.2 (by omega)
 have k19:(ok == 19)=false:=beq_eq_false_iff_ne.2 (by omega)
 obtain⟨pd,cd,hvd⟩:=Pk.own_sl h1.rd
 have x0:=h1.wat.cell.1
 rw[hvd] at x0
 have HD:=hde hD
 have H1:=hde h1
 by_cases hz:Ps.length=0
 ·have hz0:(((Ps.length:Nat):Int) == 0)=true:=beq_iff_eq.2 (by omega)
  have HR:Hid (StPost w0 W Ps.length (n+1) (b+t.size) N ht.length hi.length (.returned (.bool true)) (w.alloc (.cells #[.int .i64 ok,.int .i64 oa,.int .i64 okk,.string s,.string t,.slice kpp kn kc,.int .i64 c0,.int .i64 c1,.int .i64 c2] 102))):=hde ⟨rfl,_,_,_,_,_,_,_,_,h1.mono (by omega) (by omega),rfl,by omega,by omega,by omega⟩
  have HZ:=hde hz
  clear h h1 hD hvd hK hz HD
  go_enter Tryz.func27,Tryz.ntmps27
  go_wp2
  go_ret
  exact⟨_,Nat.le_succ _,uh HR⟩
 ·have hz0:(((Ps.length:Nat):Int) == 0)=false:=beq_eq_false_iff_ne.2 (by omega)
  have hpl:pk okk Ps.length < Ps.length:=pk_lt okk (by omega)
  have hP:=fun X=>pk_any okk Ps.length X hkk1 hkk2 (by omega) (by omega)
  clear h h1 hD hvd hK
  go_enter Tryz.func27,Tryz.ntmps27
  go_upto_region 16 with (fail)
  go_region_with (first
   | (go_at_call 48;refine(hP _).mono ?_;rintro e wp ⟨rfl,hwp⟩;obtain rfl:=hwp.symm;clear hwp)
   | (go_at_call 47;refine((uh HD) _ ((Below.refl _ _).drew) _ hpl).mono ?_;rintro e w2 hp;obtain rfl:=hp.1))
  all_goals
   have HR:=hde hp
   clear hp
   go_wp2
   go_ret
   exact⟨_,Nat.le_succ _,uh HR⟩
end Go.Proofs.YteflnddphpjahaaGreatDoor.Dl
