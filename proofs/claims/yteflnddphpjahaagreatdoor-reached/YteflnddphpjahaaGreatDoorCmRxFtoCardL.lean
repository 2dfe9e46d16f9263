import Derived.Test.YteflnddphpjahaaGreatDoorCmRqNtoRxE
import Derived.Test.YteflnddphpjahaaGreatDoorCmCqOtoCqQ
import Derived.WalkKit
import Derived.ProofKit
import Derived.OpenShut
import Derived.ShutString
import Derived.JoinedCond
import Derived.Test.YteflnddphpjahaaGreatDoorCmRnLtoCardD
import Derived.Test.YteflnddphpjahaaGreatDoorTie
import Derived.Test.YteflnddphpjahaaGreatDoorCards
import Derived.SevenTiedAt
import Derived.Test.YteflnddphpjahaaGreatDoorCmCardAtoCopyK
set_option linter.unusedVariables false
set_option linter.unusedSimpArgs false
set_option maxRecDepth 100000
set_option maxHeartbeats 16000000
namespace Go.Proofs.YteflnddphpjahaaGreatDoor
open Go.RowKit
def abc:ByteArray:=⟨#[97,98,99,100,101,102,103,104]⟩
theorem abc_at:∀ i,i < 8→(abc.extract i (i+1)).data.toList=[UInt8.ofNat (97+i)]:=by decide +kernel
theorem abc_run (w:World):∀ i:Nat,i < 8→Sem.run Tryz.prog (Instr.slice 9 (.string ⟨#[97,98,99,100,101,102,103,104]⟩) (some (.int .i64 (i:Int))) (some (.int .i64 ((i:Int)+1))) none) w = .ok (.string (abc.extract i (i+1))) w
 | 0,_=>by kernel_rfl
 | 1,_=>by kernel_rfl
 | 2,_=>by kernel_rfl
 | 3,_=>by kernel_rfl
 | 4,_=>by kernel_rfl
 | 5,_=>by kernel_rfl
 | 6,_=>by kernel_rfl
 | 7,_=>by kernel_rfl
 | _+8,h=>absurd h (by omega)
theorem Sp.vln_pos {i:Nat} (h:0 < i):Sp.vln i=UInt8.ofNat (97+i) :: [32,49,48,48,48,48,48,48,48,48,48]:=by unfold Sp.vln;rw[if_neg (by omega)]
def rdE (F T W:Nat→Int) (n i:Nat):Sp.Ed:=⟨pk (F i) n,pk (T i) n,(pk (W i) 1001:Int)⟩
def rds (F T W:Nat→Int) (n m:Nat):List Sp.Ed:=(List.range m).map (rdE F T W n)
theorem rds_succ (F T W:Nat→Int) (n m:Nat):rds F T W n (m+1)=rds F T W n m++[rdE F T W n m]:=by unfold rds;rw[List.range_succ,List.map_append];rfl
theorem rds_len (F T W:Nat→Int) (n m:Nat):(rds F T W n m).length=m:=by unfold rds;simp
theorem rds_ok (F T W:Nat→Int) {n:Nat} (hn:0 < n) (m:Nat):Sp.EdOk (rds F T W n m) n:=⟨fun e he=>by
 unfold rds at he
 obtain⟨i,_,rfl⟩:=List.mem_map.1 he
 have:=pk_lt (F i) hn
 have:=pk_lt (T i) hn
 have:=pk_lt (W i) (n:=1001) (by omega)
 exact⟨by assumption,by assumption,Int.natCast_nonneg _,by show ((pk (W i) 1001:Nat):Int)≤1000;omega⟩⟩
theorem best_new (w:World) (t:TypeId):BestAt (w.alloc (.cells #[.int .i64 0,.int .i64 0,.int .i64 0,.int .i64 0,.int .i64 0,.int .i64 0,.int .i64 0,.int .i64 0] t)) w.heap.size 1 (Sp.psN [] 0):=by
 have hb:=heap_alloc_new w (.cells #[.int .i64 0,.int .i64 0,.int .i64 0,.int .i64 0,.int .i64 0,.int .i64 0,.int .i64 0,.int .i64 0] t)
 generalize w.alloc _=V at hb ⊢
 refine⟨fun j hj=>?_,fun j=>by simp[World.frozen?,hb],(Array.getElem?_eq_some_iff.1 hb).1⟩
 have h8:j=0∨j=1∨j=2∨j=3∨j=4∨j=5∨j=6∨j=7:=by omega
 refine⟨0,?_,fun h1=>?_⟩
 ·rcases h8 with rfl | rfl | rfl | rfl | rfl | rfl | rfl | rfl <;> simp[World.cell?,hb]
 ·obtain rfl:j=0:=by omega
  rfl
theorem psL_snoc (b:Nat→Int) (R:List Sp.Ed) (e:Sp.Ed):Sp.psL b (R++[e])=Sp.ps1 (Sp.psL b R) e:=by unfold Sp.psL;rw[List.foldl_append];rfl
theorem ps1_bd {b:Nat→Int} {e:Sp.Ed} (he:0≤e.n) (h:∀ v,0≤b v∧b v≤1000000000) (v:Nat):0≤Sp.ps1 b e v∧Sp.ps1 b e v≤1000000000:=by
 refine⟨?_,Int.le_trans (Sp.ps1_le b e v) (h v).2⟩
 unfold Sp.ps1
 split
 ·unfold Sp.upd
  split
  ·have:=(h e.frm).1;omega
  ·exact(h v).1
 ·exact(h v).1
theorem psL_bd:∀ (R:List Sp.Ed) (b:Nat→Int),(∀ e ∈ R,0≤e.n)→(∀ v,0≤b v∧b v≤1000000000)→∀ v,0≤Sp.psL b R v∧Sp.psL b R v≤1000000000:=by
 intro R
 induction R with
 | nil=>intro b _ h v;exact h v
 | cons e r ih=>intro b he h v;exact ih (Sp.ps1 b e) (fun x hx=>he x (List.mem_cons_of_mem _ hx)) (fun u=>ps1_bd (he e (List.mem_cons_self ..)) h u) v
theorem psN_bd {R:List Sp.Ed} (hR:∀ e ∈ R,0≤e.n):∀ (k v:Nat),0≤Sp.psN R k v∧Sp.psN R k v≤1000000000:=by
 intro k
 induction k with
 | zero=>intro v;simp only[Sp.psN];split <;> omega
 | succ k ih=>intro v;exact psL_bd R _ hR ih v
theorem reach_res {s:ByteArray} {n:Nat} {R:List Sp.Ed} (hn:0 < n) (hn8:n≤8) (hR:Sp.EdOk R n) (hl:R.length≤200) (hs:s.data.toList=Sp.vtx n++Sp.etx R):∃ st,resOf s reachT 200=⟨1,st,0,(List.range n).map (Sp.psN R n)⟩∧askE s reachT 200=0:=by
 obtain⟨h1,h2,h3⟩:=text_reach hn8 hR hl hs
 have hE:Sp.EdOk (els s) n:=⟨fun e he=>hR.b e ((h3 e).1 he)⟩
 obtain⟨st,hst⟩:=Sp.reach_run reach_is hE hn (by omega)
 have ha:askE s reachT 200=0:=by
  unfold askE
  rw[if_neg (by rw[h1];simp),if_neg (by rw[reach_comp];simp),if_neg (by omega)]
 refine⟨st,?_,ha⟩
 have hp:Sp.psN R n=Sp.dk (els s) n:=funext fun v=>Sp.psN_eq hE hn h3 v
 unfold resOf
 rw[if_pos ha,h2,hp]
 exact hst
theorem reached_any (size:Int) (p:Option Addr) (len cap:Nat) (F T W:Nat→Int) (z f:Addr) (w:World) (hs1 : -9223372036854775808≤size) (hs2:size≤9223372036854775807) (hR:RoadsAt w p len F T W) (hlen:len≤9223372036854775807) (hT:Lib.Utf8Tabs 3 4 w) (hC:CompEnv w) (her:Errs w z f) :
  Calls Tryz.prog 4 #[.int .i64 size,.slice p len cap] w fun e w'=>e = .returned (.bool true)∧Below w.heap.size w w':=by
 have HT:=hde hT
 have HC:=hde hC
 have HER:=hde her
 have HRD:=hde hR
 have HRW:=hde hR
 clear hT hC her hR
 have hn0:=pk_lt size (n:=8) (by omega)
 have HPK:Hid (∀ W,Calls Tryz.prog 9 #[.int .i64 size,.int .i64 8] W fun e w'=>e = .returned (.int .i64 (pk size 8))∧w'=W):=fun W=>pk_any size 8 W hs1 hs2 (by omega) (by omega)
 generalize pk size 8=n0 at *
 obtain⟨n,hn⟩:∃ n,n=n0+1:=⟨_,rfl⟩
 have hn1:1≤n:=by omega
 have hn8:n≤8:=by omega
 have hwn:IntKind.i64.wrap ((n0:Int)+1)=(n:Int):=by rw[IntKind.wrap_i64];omega
 clear hn hn0
 go_enter Tryz.func4,Tryz.ntmps4
 go_wp2_with (go_at_call 9;refine(uh HPK _).mono ?_;rintro e w1 ⟨rfl,hw1⟩;obtain rfl:=hw1.symm)
 clear HPK hwn hs1 hs2
 go_loopw [6,8] (fun a b wr=>∃ (i:Nat) (sb:ByteArray),a = .string sb∧b = .int .i64 i∧1≤i∧i≤n∧Below w.heap.size w wr∧BestAt wr w.heap.size i (Sp.psN [] 0)∧Hid (sb.data.toList=Sp.vtx i)∧sb.size≤104) (fun _ b _=>n - (intOf b).toNat)
 case atStart=>exact⟨1,_,rfl,rfl,Nat.le_refl _,hn1,(Below.refl _ _).alloc nlr _,best_new w _,by show _=_;decide,by decide⟩
 case round =>
  obtain⟨i,sb,rfl,rfl,hi1,hin,hb,hBe,HSB,hsz⟩:=hrel
  by_cases hlt:i < n
  ·have hltz:(i:Int) < (n:Int):=by omega
   obtain⟨x,hx,_⟩:=hBe.c i (by omega)
   have hfz:=hBe.f i
   have hab:∀ W,Sem.run Tryz.prog (Instr.slice 9 (.string ⟨#[97,98,99,100,101,102,103,104]⟩) (some (.int .i64 (i:Int))) (some (.int .i64 ((i:Int)+1))) none) W = .ok (.string (abc.extract i (i+1))) W:=fun W=>abc_run W i (by omega)
   have haz:(abc.extract i (i+1)).size=1:=by rw[list_sz,abc_at i (by omega)];rfl
   have hi8:(i:Int) < 8:=by omega
   have HNX:Hid ((sb++abc.extract i (i+1)++⟨#[32,49,48,48,48,48,48,48,48,48,48,10]⟩:ByteArray).data.toList=Sp.vtx (i+1)):=by
    show _=_
    rw[app_ls,app_ls,uh HSB,abc_at i (by omega),Sp.vtx_succ,Sp.vln_pos (by omega)]
    simp
   go_wp2
   go_roundw
   case rel =>
    refine⟨i+1,_,rfl,by go_num,by omega,by omega,hb.setCell (p:=⟨w.heap.size,i,none⟩) nlr _,hBe.set (by omega) _ (fun _=>?_) (fun j hj hne=>⟨by omega,rfl⟩),HNX,?_⟩
    ·show _=if i=0 then (0:Int) else 1000000000
     rw[if_neg (by omega)]
    ·rw[list_sz,uh HNX]
     have:=Sp.vtx_len (i+1)
     omega
   case measure=>simp[intOf];omega
  ·have hltz:¬ (i:Int) < (n:Int):=by omega
   obtain rfl:i=n:=by omega
   have HRD:=hde ((uh HRD).below hb)
   go_wp2
   clear hlt hltz
   go_loopw [6,9] (fun a b wr'=>∃ (j:Nat) (sb:ByteArray),a = .string sb∧b = .int .i64 j∧j≤len∧j≤200∧Below wr.heap.size wr wr'∧Hid (sb.data.toList=Sp.vtx i++Sp.etx (rds F T W i j))∧sb.size≤2000) (fun _ b _=>len - (intOf b).toNat)
   case atStart=>exact⟨0,sb,rfl,rfl,Nat.zero_le _,Nat.zero_le _,Below.refl _ _,by show _=_;rw[uh HSB];simp[rds,Sp.etx],by omega⟩
   case round =>
    clear HSB hsz
    obtain⟨j,sb,rfl,rfl,hjl,hj2,hbr,HSB,hsz⟩:=hrel
    by_cases hlt:j < len∧j < 200
    ·obtain⟨hl1,hl2⟩:=hlt
     have hl1z:(j:Int) < (len:Int):=by omega
     have hl2z:(j:Int) < 200:=by omega
     obtain⟨g,o,rfl,hg,c0,c1,c2,i1,i2,i3⟩:=((uh HRD).below hbr) j hl1
     obtain⟨a,HA⟩:∃ a,Hid (pk (F j) i=a):=⟨_,rfl⟩
     obtain⟨b,HB⟩:∃ b,Hid (pk (T j) i=b):=⟨_,rfl⟩
     obtain⟨e,HE⟩:∃ e,Hid (pk (W j) 1001=e):=⟨_,rfl⟩
     have HP0:Hid (∀ W,Calls Tryz.prog 9 #[.int .i64 (F j),.int .i64 (i:Int)] W fun e w'=>e = .returned (.int .i64 (a:Int))∧w'=W):=by rw[← uh HA];exact fun W=>pk_any (F j) i W i1.1 i1.2 (by omega) (by omega)
     have HP1:Hid (∀ W,Calls Tryz.prog 9 #[.int .i64 (T j),.int .i64 (i:Int)] W fun e w'=>e = .returned (.int .i64 (b:Int))∧w'=W):=by rw[← uh HB];exact fun W=>pk_any (T j) i W i2.1 i2.2 (by omega) (by omega)
     have HP2:Hid (∀ V,Calls Tryz.prog 9 #[.int .i64 (W j),.int .i64 1001] V fun r w'=>r = .returned (.int .i64 (e:Int))∧w'=V):=by rw[← uh HE];exact fun V=>pk_any (W j) 1001 V i3.1 i3.2 (by omega) (by omega)
     have hpa:a < i:=by rw[← uh HA];exact pk_lt (F j) (n:=i) (by omega)
     have hpb:b < i:=by rw[← uh HB];exact pk_lt (T j) (n:=i) (by omega)
     have hpw:e < 1001:=by rw[← uh HE];exact pk_lt (W j) (n:=1001) (by omega)
     have HEL:Hid (Sp.eln (rdE F T W i j)=UInt8.ofNat (97+a) :: 62 :: UInt8.ofNat (97+b) :: 32 :: Sp.d4 e):=by
      show _=_
      unfold Sp.eln rdE
      rw[uh HA,uh HB,uh HE]
      simp only[Int.toNat_natCast]
     clear HA HB HE
     have hab:∀ W,Sem.run Tryz.prog (Instr.slice 9 (.string ⟨#[97,98,99,100,101,102,103,104]⟩) (some (.int .i64 (a:Int))) (some (.int .i64 ((a:Int)+1))) none) W = .ok (.string (abc.extract a (a+1))) W:=fun W=>abc_run W a (by omega)
     have hbb:∀ W,Sem.run Tryz.prog (Instr.slice 9 (.string ⟨#[97,98,99,100,101,102,103,104]⟩) (some (.int .i64 (b:Int))) (some (.int .i64 ((b:Int)+1))) none) W = .ok (.string (abc.extract b (b+1))) W:=fun W=>abc_run W b (by omega)
     have haz:(abc.extract a (a+1)).size=1:=by rw[list_sz,abc_at a (by omega)];rfl
     have hbz:(abc.extract b (b+1)).size=1:=by rw[list_sz,abc_at b (by omega)];rfl
     have hi8:(a:Int) < 8:=by omega
     have hj8:(b:Int) < 8:=by omega
     have hwa:IntKind.i64.wrap ((a:Int)+1)=(a:Int)+1:=by rw[IntKind.wrap_i64];omega
     have hwb:IntKind.i64.wrap ((b:Int)+1)=(b:Int)+1:=by rw[IntKind.wrap_i64];omega
     have HDC:=hde (fun W=>dec4_any e W (by omega))
     clear i1 i2 i3
     go_upto_region 13 with (go_at_call 9;refine(uh HP0 _).mono ?_;rintro e w1 ⟨rfl,hw1⟩;obtain rfl:=hw1.symm)
     clear HP0
     go_upto_region 14 with (go_at_call 9;refine(uh HP1 _).mono ?_;rintro e w1 ⟨rfl,hw1⟩;obtain rfl:=hw1.symm)
     clear HP1
     clear c0 c1
     have HK2:Hid (∀ V,Below wr.heap.size wr V→V.cell? ⟨g,o+j * 3+2,none⟩=some (.int .i64 (W j))):=fun V hV=>(hV.cell (p:=⟨g,o+j * 3+2,none⟩) (Nat.lt_of_lt_of_le hg nlr)).trans c2
     have q1:¬ 9223372036854775807 < sb.size+1:=(by omega)
     have q2:¬ 9223372036854775806 < sb.size:=(by omega)
     have q3:¬ 9223372036854775807≤sb.size:=(by omega)
     have q4:¬ 9223372036854775807 < sb.size+2:=(by omega)
     have q5:¬ 9223372036854775805 < sb.size:=(by omega)
     have q6:¬ 9223372036854775806≤sb.size:=(by omega)
     have q7:¬ 9223372036854775807 < sb.size+1+1:=(by omega)
     have q8:¬ 9223372036854775807 < sb.size+3:=(by omega)
     have q9:¬ 9223372036854775804 < sb.size:=(by omega)
     have q10:¬ 9223372036854775805≤sb.size:=(by omega)
     have q11:¬ 9223372036854775807 < sb.size+1+1+1:=(by omega)
     have q12:¬ 9223372036854775807 < sb.size+4:=(by omega)
     have q13:¬ 9223372036854775803 < sb.size:=(by omega)
     have q14:¬ 9223372036854775804≤sb.size:=(by omega)
     have q15:¬ 9223372036854775807 < sb.size+1+1+1+1:=(by omega)
     go_region_held3 (fun w'=>w'.cell? ⟨g,o+j * 3+2,none⟩=some (.int .i64 (W j)))
      (first | (go_keep;done) | (exact uh HK2 _ (by first | assumption | exact(Below.refl _ _).drew)))
      (first | (go_at_call 9;refine(uh HP2 _).mono ?_;rintro e w1 ⟨rfl,hw1⟩;obtain rfl:=hw1.symm) | (go_at_call 10;refine(uh HDC _).mono ?_;rintro e w2 ⟨⟨db,rfl,hdb⟩,hb20⟩;have hb2:Below wr.heap.size wr w2:=((Below.refl _ _).drew.trans (hb20.mono nlr));have HDB:=hde hdb;have hdz:db.size≤4:=(by rw[list_sz,hdb];exact(Sp.d4_len _).2);have q16:¬ 9223372036854775807 < sb.size+4+db.size:=(by omega);have q17:¬ 9223372036854775806 < sb.size+4+db.size:=(by omega);have q18:¬ 9223372036854775807 < sb.size+4+db.size+1:=(by omega);have q19:¬ 9223372036854775807≤sb.size+4+db.size:=(by omega);have q20:¬ 9223372036854775807 < sb.size+1+1+1+1+db.size:=(by omega);have q21:¬ 9223372036854775806 < sb.size+1+1+1+1+db.size:=(by omega);have q22:¬ 9223372036854775807 < sb.size+1+1+1+1+db.size+1:=(by omega);have q23:¬ 9223372036854775807≤sb.size+1+1+1+1+db.size:=(by omega);clear hdb))
     clear q1 q2 q3 q4 q5 q6 q7 q8 q9 q10 q11 q12 q13 q14 q15 q16 q17 q18 q19 q20 q21 q22 q23 hab hbb haz hbz c2 HK2 HP2 HDC hi8 hj8 hwa hwb
     have HNX:Hid ((sb++abc.extract a (a+1)++⟨#[62]⟩++abc.extract b (b+1)++⟨#[32]⟩++db++⟨#[10]⟩:ByteArray).data.toList=Sp.vtx i++Sp.etx (rds F T W i (j+1))):=by
      show _=_
      have he:Sp.etx [rdE F T W i j]=Sp.eln (rdE F T W i j)++[10]:=by simp[Sp.etx]
      rw[app_ls,app_ls,app_ls,app_ls,app_ls,app_ls,uh HSB,abc_at a (by omega),abc_at b (by omega),uh HDB,rds_succ,Sp.etx_append,he,uh HEL]
      simp
     have HSN:Hid ((sb++abc.extract a (a+1)++⟨#[62]⟩++abc.extract b (b+1)++⟨#[32]⟩++db++⟨#[10]⟩:ByteArray).size≤2000):=by
      show _≤_
      rw[list_sz,uh HNX,List.length_append]
      have h1:=Sp.vtx_len i
      have h2:=Sp.etx_len (rds F T W i (j+1))
      rw[rds_len] at h2
      omega
     generalize (sb++abc.extract a (a+1)++⟨#[62]⟩++abc.extract b (b+1)++⟨#[32]⟩++db++⟨#[10]⟩:ByteArray)=sn at HNX HSN ⊢
     go_wp2
     go_roundw
     case rel=>exact⟨j+1,sn,rfl,by go_num,by omega,by omega,hbr.trans (hb2.mono hbr.size),HNX,uh HSN⟩
     case measure=>simp[intOf];omega
    ·have hm:∀ k,k < j↔(k < len∧k < 200):=fun k=>by omega
     go_upto_region 10 with fail
     go_cut [46] from 39 to 46 (fun u wx=>u = .bool false∧wx=wr)
     case first =>
      by_cases h1:j < len
      ·have h1z:(j:Int) < (len:Int):=by omega
       have h2z:¬ (j:Int) < 200:=by omega
       go_wp2
       go_meet
       exact⟨rfl,rfl⟩
      ·have h1z:¬ (j:Int) < (len:Int):=by omega
       go_wp2
       go_meet
       exact⟨rfl,rfl⟩
     case rest =>
     obtain⟨rfl,hwc⟩:=hcut
     obtain rfl:=hwc.symm
     clear hwc
     have hBe:=hBe.below hbr
     have hb:=hb.trans (hbr.mono hb.size)
     have HRD:=hde ((uh HRD).below hbr)
     clear hbr
     have HE0:Hid (∀ m,Sp.EdOk (rds F T W i m) i):=fun m=>rds_ok F T W (by omega) m
     go_wp2
     go_loopw [12] (fun u wr'=>∃ k:Nat,u = .int .i64 k∧k≤i∧Below w.heap.size w wr'∧BestAt wr' w.heap.size i (Sp.psN (rds F T W i j) k)) (fun u _=>i - (intOf u).toNat)
     case atStart=>exact⟨0,rfl,Nat.zero_le _,hb,hBe⟩
     case round =>
      clear hb hBe
      obtain⟨k,rfl,hk,hb,hBe⟩:=hrel
      by_cases hki:k < i
      ·have hkiz:(k:Int) < (i:Int):=by omega
       go_wp2
       go_loopw [13] (fun u wr'=>∃ q:Nat,u = .int .i64 q∧q≤j∧Below w.heap.size w wr'∧BestAt wr' w.heap.size i (Sp.psL (Sp.psN (rds F T W i j) k) (rds F T W i q))) (fun u _=>j - (intOf u).toNat)
       case atStart=>exact⟨0,rfl,Nat.zero_le _,hb,hBe⟩
       case round =>
        clear hb hBe
        obtain⟨q,rfl,hq,hb,hBe⟩:=hrel
        by_cases hqj:q < j
        ·obtain⟨hq1,hq2⟩:=(hm q).1 hqj
         have hq1z:(q:Int) < (len:Int):=by omega
         have hq2z:(q:Int) < 200:=by omega
         obtain⟨g,o,rfl,hg,c0,c1,c2,i1,i2,i3⟩:=((uh HRW).below hb) q hq1
         obtain⟨a,HA⟩:∃ a,Hid (pk (F q) i=a):=⟨_,rfl⟩
         obtain⟨b,HB⟩:∃ b,Hid (pk (T q) i=b):=⟨_,rfl⟩
         obtain⟨e,HE⟩:∃ e,Hid (pk (W q) 1001=e):=⟨_,rfl⟩
         have HP0:Hid (∀ W,Calls Tryz.prog 9 #[.int .i64 (F q),.int .i64 (i:Int)] W fun e w'=>e = .returned (.int .i64 (a:Int))∧w'=W):=by rw[← uh HA];exact fun W=>pk_any (F q) i W i1.1 i1.2 (by omega) (by omega)
         have HP1:Hid (∀ W,Calls Tryz.prog 9 #[.int .i64 (T q),.int .i64 (i:Int)] W fun e w'=>e = .returned (.int .i64 (b:Int))∧w'=W):=by rw[← uh HB];exact fun W=>pk_any (T q) i W i2.1 i2.2 (by omega) (by omega)
         have HP2:Hid (∀ V,Calls Tryz.prog 9 #[.int .i64 (W q),.int .i64 1001] V fun r w'=>r = .returned (.int .i64 (e:Int))∧w'=V):=by rw[← uh HE];exact fun V=>pk_any (W q) 1001 V i3.1 i3.2 (by omega) (by omega)
         have hpa:a < i:=by rw[← uh HA];exact pk_lt (F q) (n:=i) (by omega)
         have hpb:b < i:=by rw[← uh HB];exact pk_lt (T q) (n:=i) (by omega)
         have hpw:e < 1001:=by rw[← uh HE];exact pk_lt (W q) (n:=1001) (by omega)
         obtain⟨bf,HBF⟩:∃ bf,Hid (Sp.psL (Sp.psN (rds F T W i j) k) (rds F T W i q)=bf):=⟨_,rfl⟩
         have HNX:Hid (Sp.psL (Sp.psN (rds F T W i j) k) (rds F T W i (q+1))=if bf a < 1000000000∧bf a+(e:Int) < bf b then Sp.upd bf b (bf a+(e:Int)) else bf):=by
          show _=_
          rw[rds_succ,psL_snoc,uh HBF]
          unfold Sp.ps1 rdE
          rw[uh HA,uh HB,uh HE]
         have hbd:∀ v,0≤bf v∧bf v≤1000000000:=by
          rw[← uh HBF]
          exact psL_bd _ _ (fun x hx=>((uh HE0 q).b x hx).2.2.1) (psN_bd (fun x hx=>((uh HE0 j).b x hx).2.2.1) k)
         rw[uh HBF] at hBe
         clear HA HB HE HBF i1 i2 i3
         obtain⟨x,hx,hxb⟩:=hBe.c a (by omega)
         obtain⟨y,hy,hyb⟩:=hBe.c b (by omega)
         have hxv:=hxb hpa
         have hyv:=hyb hpb
         have hx0:=hbd a
         rw[← hxv] at hx0
         have HBD:=hde hbd
         have hfb:=hBe.f b
         have hwe:IntKind.i64.wrap (x+(e:Int))=x+(e:Int):=by rw[IntKind.wrap_i64];omega
         have hla:(a:Int) < 8:=by omega
         have hlb:(b:Int) < 8:=by omega
         rw[← hxv,← hyv] at HNX
         have HXV:=hde hxv
         have HYV:=hde hyv
         clear hbd hxb hyb hxv hyv
         go_upto_region 22 with (go_at_call 9;refine(uh HP0 _).mono ?_;rintro e w1 ⟨rfl,hw1⟩;obtain rfl:=hw1.symm)
         clear HP0
         go_upto_region 23 with (go_at_call 9;refine(uh HP1 _).mono ?_;rintro e w1 ⟨rfl,hw1⟩;obtain rfl:=hw1.symm)
         clear HP1
         go_upto_region 24 with (go_at_call 9;refine(uh HP2 _).mono ?_;rintro e w1 ⟨rfl,hw1⟩;obtain rfl:=hw1.symm)
         clear HP2 c0 c1 c2
         by_cases g1:x < 1000000000
         ·by_cases g2:x+(e:Int) < y
          ·have d1:decide (x < 1000000000)=true:=decide_eq_true g1
           have d2:decide (x+(e:Int) < y)=true:=decide_eq_true g2
           have HNE:Hid (Sp.psL (Sp.psN (rds F T W i j) k) (rds F T W i (q+1))=Sp.upd bf b (x+(e:Int))):=by show _=_;rw[uh HNX,if_pos ⟨g1,g2⟩]
           go_quiet (fail)
           go_wp2
           go_roundw
           case rel =>
            have hbq:=hb.trans ((below_drewN wr nq).mono hb.size)
            refine⟨q+1,by go_num,by omega,hbq.setCell (p:=⟨w.heap.size,b,none⟩) nlr _,?_⟩
            rw[uh HNE]
            exact(hBe.below (below_drewN _ _)).set (by omega) (x+(e:Int)) (fun _=>by unfold Sp.upd;rw[if_pos rfl]) (fun v hv hne=>⟨hv,by unfold Sp.upd;rw[if_neg hne]⟩)
           case measure=>simp[intOf];omega
          ·have d1:decide (x < 1000000000)=true:=decide_eq_true g1
           have d2:decide (x+(e:Int) < y)=false:=decide_eq_false g2
           have HNE:Hid (Sp.psL (Sp.psN (rds F T W i j) k) (rds F T W i (q+1))=bf):=by show _=_;rw[uh HNX,if_neg (fun h=>g2 h.2)]
           go_quiet (fail)
           go_wp2
           go_roundw
           case rel=>exact⟨q+1,by go_num,by omega,hb.trans ((below_drewN _ _).mono hb.size),by rw[uh HNE];exact hBe.below (below_drewN _ _)⟩
           case measure=>simp[intOf];omega
         ·have d1:decide (x < 1000000000)=false:=decide_eq_false g1
          have HNE:Hid (Sp.psL (Sp.psN (rds F T W i j) k) (rds F T W i (q+1))=bf):=by show _=_;rw[uh HNX,if_neg (fun h=>g1 h.1)]
          go_quiet (fail)
          go_wp2
          go_roundw
          case rel=>exact⟨q+1,by go_num,by omega,hb.trans ((below_drewN _ _).mono hb.size),by rw[uh HNE];exact hBe.below (below_drewN _ _)⟩
          case measure=>simp[intOf];omega
        ·go_upto_region 19 with fail
         go_cut [97] from 90 to 97 (fun u wx=>u = .bool false∧wx=wr)
         case first =>
          by_cases h1:q < len
          ·have h1z:(q:Int) < (len:Int):=by omega
           have h2z:¬ (q:Int) < 200:=by omega
           go_wp2
           go_meet
           exact⟨rfl,rfl⟩
          ·have h1z:¬ (q:Int) < (len:Int):=by omega
           go_wp2
           go_meet
           exact⟨rfl,rfl⟩
         case rest =>
         obtain⟨rfl,hwc⟩:=hcut
         obtain rfl:=hwc.symm
         clear hwc
         obtain rfl:q=j:=by omega
         go_wp2
         go_roundw
         case rel=>exact⟨k+1,by go_num,by omega,hb,hBe⟩
         case measure=>simp[intOf];omega
      ·have hkiz:¬ (k:Int) < (i:Int):=by omega
       obtain rfl:k=i:=by omega
       obtain⟨st,HRES,HASK⟩:=reach_res (by omega) hn8 (uh HE0 j) (by rw[rds_len];omega) (uh HSB)
       have HRES:=hde HRES
       have HASK:=hde HASK
       obtain⟨bf,HBF⟩:∃ bf,Hid (Sp.psN (rds F T W k j) k=bf):=⟨_,rfl⟩
       rw[uh HBF] at HRES hBe
       clear HBF
       go_upto_region 27 with (go_at_call 11;refine(cat_reach _).mono ?_;rintro e w1 ⟨rfl,hw1⟩;obtain rfl:=hw1.symm)
       go_wp2_with fail
       refine(srun_any sb reachT 200 z f _ (tabs_below (uh HT) hb) ((uh HC).below hb) ((uh HER).below hb)).mono ?_
       rintro e w3 ⟨hb3,_,v,rfl,hov⟩
       rw[uh HRES,uh HASK]
       rw[uh HRES] at hov
       simp only[List.length_map,List.length_range] at hov
       obtain⟨pv,kv,rfl,hcs⟩:=osl hov
       have hBe3:=hBe.below hb3
       have hbw3:Below w.heap.size w w3:=hb.trans (hb3.mono hb.size)
       have HCS:=hde hcs
       clear hcs hov hb3 hBe hb HRES HASK HSB
       dsimp only
       rw[show ((1:Nat):Int)=1 from rfl,show ((0:Nat):Int)=0 from rfl]
       obtain⟨W5,hW5⟩:∃ W5,w3.alloc (.cells #[.int .u8 1,.int .i64 (st:Int),.int .i64 0,.slice pv k kv] 44)=W5:=⟨_,rfl⟩
       have hG5:W5.heap[w3.heap.size]? = some (.cells #[.int .u8 1,.int .i64 (st:Int),.int .i64 0,.slice pv k kv] 44 (0,0)):=by rw[← hW5];exact heap_alloc_new w3 _
       have hb35:Below w3.heap.size w3 W5:=by rw[← hW5];exact(Below.refl _ _).alloc nlr _
       have hs5:w3.heap.size < W5.heap.size:=(Array.getElem?_eq_some_iff.1 hG5).1
       have HW5:=hde hW5
       clear hW5
       go_wp2
       go_loopw [21] (fun u wr2=>∃ q:Nat,u = .int .i64 q∧q≤k∧Below W5.heap.size W5 wr2) (fun u _=>k - (intOf u).toNat)
       case atStart=>exact⟨0,rfl,Nat.zero_le _,by rw[uh HW5];exact Below.refl _ _⟩
       case round =>
        obtain⟨q,rfl,hq,hb5⟩:=hrel
        have hb36:Below w3.heap.size w3 wr:=hb35.trans (hb5.mono hb35.size)
        by_cases hqk:q < k
        ·have hqkz:(q:Int) < (k:Int):=by omega
         obtain⟨x,hx,hxb⟩:=(hBe3.below hb36).c q (by omega)
         have hxv:=hxb hqk
         obtain⟨g,rfl,_,hg1,hg2⟩:=(uh HCS) q (by simpa using hqk)
         have d1:wr.cell? ⟨g,q,none⟩=some (.int .i64 x):=by
          rw[hb36.cell (p:=⟨g,q,none⟩) hg1,hg2,List.map_map,List.getElem?_map,List.getElem?_range hqk,hxv];rfl
         have hG6:=(hb5.block _ hs5).trans hG5
         have n3:wr.cell? ⟨w3.heap.size,3,none⟩=some (.slice (some ⟨g,0,none⟩) k kv):=by simp[World.cell?,hG6]
         have hq8:(q:Int) < 8:=by omega
         clear hxb hxv hg2 hG6
         go_wp2_with fail
         go_quiet (fail)
         go_wp2
         go_roundw
         case rel=>exact⟨q+1,by go_num,by omega,hb5.trans ((below_drewN _ _).mono hb5.size)⟩
         case measure=>simp[intOf];omega
        ·have hqkz:¬ (q:Int) < (k:Int):=by omega
         go_wp2
         go_ret
         exact⟨rfl,hbw3.trans (hb36.mono hbw3.size)⟩
open Go.ChangeShapes Go.WideShapes Go.ChangeAt Go.RowKit
theorem rxLaidOut:laidOutB Tryz.prog=true:=by kernel_rfl
theorem rxInt:Tryz.prog.cellsOf 3=1:=by kernel_rfl
theorem rxRoad:Tryz.prog.cellsOf 36=3:=by kernel_rfl
theorem rx_i64 {x:Int} (h:(Lit.int .i64 x).wf=true) : -9223372036854775808≤x∧x≤9223372036854775807:=by
 simpa [Lit.wf,IntKind.min,IntKind.max,IntKind.signed,IntKind.bits] using h
theorem roadFields:∃ f0 f1 f2:Field,Tryz.prog.underlying 36=some (.struct #[f0,f1,f2])∧f0.type=3∧f1.type=3∧f2.type=3∧f0.offset=0∧f1.offset=1∧f2.offset=2 :=
 ⟨_,_,_,Tryz.underlying36,rfl,rfl,rfl,rfl,rfl,rfl⟩
section
variable {H:Type} {enc:TypeId × Value→H} {w:World}
theorem road_one {fuel:Nat} {cs:List Value} {x:DataW H × List MemPlace} (h:DataW.trod enc Tryz.prog w 0 (fun _=>true) true fuel 36 cs=some x) :
  ∃ a b c,cs=[.int .i64 a,.int .i64 b,.int .i64 c]∧Sp.i64 a∧Sp.i64 b∧Sp.i64 c:=by
 obtain⟨f0,f1,f2,hu,t0,t1,t2,o0,o1,o2⟩:=roadFields
 obtain⟨xs,n,_,rfl,hl,hlen,hf⟩:=DataW.trod_struct hu h
 rw[rxRoad] at hl
 match xs,hlen with
 | [y0,y1,y2],_ =>
  have g0:=hf 0 f0 rfl
  have g1:=hf 1 f1 rfl
  have g2:=hf 2 f2 rfl
  rw[t0,o0,rxInt] at g0
  rw[t1,o1,rxInt] at g1
  rw[t2,o2,rxInt] at g2
  obtain⟨a,e0,rfl,w0⟩:=DataW.trod_int Tryz.underlying3 (x:=y0) (by simpa using g0)
  obtain⟨b,e1,rfl,w1⟩:=DataW.trod_int Tryz.underlying3 (x:=y1) (by simpa using g1)
  obtain⟨c,e2,rfl,w2⟩:=DataW.trod_int Tryz.underlying3 (x:=y2) (by simpa using g2)
  match cs,hl with
  | [c0,c1,c2],_ =>
   simp at e0 e1 e2
   subst e0 e1 e2
   exact⟨a,b,c,rfl,rx_i64 w0,rx_i64 w1,rx_i64 w2⟩
theorem cells3 {a:Addr} {v0 v1 v2:Value} (h:w.cells? 0 a 3=some [v0,v1,v2]):w.cell? (a.add 0)=some v0∧w.cell? (a.add 1)=some v1∧w.cell? (a.add 2)=some v2:=by
 unfold World.cells? at h
 rw[if_pos (Nat.zero_le _)] at h
 have e:List.range 3=[0,1,2]:=by decide
 rw[e] at h
 simp only[List.mapM_cons,List.mapM_nil] at h
 cases h0:w.cell? (a.add 0) with
 | none=>simp[h0] at h
 | some x0 =>
  cases h1:w.cell? (a.add 1) with
  | none=>simp[h0,h1] at h
  | some x1 =>
   cases h2:w.cell? (a.add 2) with
   | none=>simp[h0,h1,h2] at h
   | some x2 =>
    simp[h0,h1,h2] at h
    obtain⟨rfl,rfl,rfl⟩:=h
    exact⟨rfl,rfl,rfl⟩
theorem rx_spot {a:Addr} {v:Value} (h:w.cell? a=some v):a.spot=none∧a.block < w.heap.size:=by
 refine⟨?_,World.block_lt_of_cell? w _ h⟩
 unfold World.cell? at h
 split at h
 ·split at h
  ·cases h
  ·rename_i hn
   cases hs:a.spot with
   | none=>rfl
   | some z=>simp[hs] at hn
 ·cases h
def numAt (w:World) (a:Addr):Int :=
 match w.cell? a with
 | some (.int _ x)=>x
 | _=>0
theorem numAt_of {a:Addr} {k:IntKind} {x:Int} (h:w.cell? a=some (.int k x)):numAt w a=x:=by unfold numAt;rw[h]
theorem roads_open {fuel:Nat} {p:Option Addr} {len cap:Nat} {x:DataW H × List MemPlace} (h:DataW.trod enc Tryz.prog w 0 (fun _=>true) true fuel 32 (Value.slice p len cap).cells.toList=some x) :
  len≤9223372036854775807∧∃ F T W,RoadsAt w p len F T W:=by
 rcases DataW.trod_slice Tryz.underlying32 h with ⟨hcs,hx⟩ | ⟨a,len',cap',elems,rest,n,_,hcs,hx,_,hl,hm,hlen,hel,_,_⟩
 ·simp[Value.cells] at hcs
  obtain⟨rfl,rfl,rfl⟩:=hcs
  exact⟨by omega,fun _=>0,fun _=>0,fun _=>0,fun i hi=>by omega⟩
 ·simp[Value.cells] at hcs
  obtain⟨rfl,rfl,rfl⟩:=hcs
  rw[rxRoad] at hel
  have each:∀ i,i < len→∃ b c d,w.cells? 0 (a.add (i * 3)) 3=some [.int .i64 b,.int .i64 c,.int .i64 d]∧Sp.i64 b∧Sp.i64 c∧Sp.i64 d:=by
   intro i hi
   have hE:=hel i hi
   have hy:elems[i]? = some elems[i]:=List.getElem?_eq_getElem (by omega)
   rw[hy,Option.bind_eq_some_iff] at hE
   obtain⟨cs,hc,ht⟩:=hE
   obtain⟨b,c,d,rfl,i1,i2,i3⟩:=road_one ht
   exact⟨b,c,d,hc,i1,i2,i3⟩
  refine⟨by unfold maxLen at hm;omega,fun i=>numAt w ⟨a.block,a.off+i * 3,none⟩,fun i=>numAt w ⟨a.block,a.off+i * 3+1,none⟩,fun i=>numAt w ⟨a.block,a.off+i * 3+2,none⟩,fun i hi=>?_⟩
  obtain⟨b,c,d,hc,i1,i2,i3⟩:=each i hi
  obtain⟨_,_,_,hc0,_⟩:=each 0 (by omega)
  obtain⟨z0,_,_⟩:=cells3 hc0
  obtain⟨c0,c1,c2⟩:=cells3 hc
  obtain⟨g,o,sp⟩:=a
  have hs:=rx_spot z0
  simp[Addr.add] at hs
  obtain⟨rfl,hg⟩:=hs
  have ea:∀ m q,((⟨g,o,none⟩:Addr).add m).add q=⟨g,o+m+q,none⟩:=by
   intro m q
   unfold Addr.add
   split <;> split <;> simp_all
  rw[ea] at c0 c1 c2
  have e0:=numAt_of c0
  have e1:=numAt_of c1
  have e2:=numAt_of c2
  simp only[Nat.add_zero] at c0 e0
  refine⟨g,o,rfl,hg,?_,?_,?_,?_,?_,?_⟩
  ·show _=some (Value.int .i64 (numAt w ⟨g,o+i * 3,none⟩));rw[e0];exact c0
  ·show _=some (Value.int .i64 (numAt w ⟨g,o+i * 3+1,none⟩));rw[e1];exact c1
  ·show _=some (Value.int .i64 (numAt w ⟨g,o+i * 3+2,none⟩));rw[e2];exact c2
  ·show Sp.i64 (numAt w ⟨g,o+i * 3,none⟩);rw[e0];exact i1
  ·show Sp.i64 (numAt w ⟨g,o+i * 3+1,none⟩);rw[e1];exact i2
  ·show Sp.i64 (numAt w ⟨g,o+i * 3+2,none⟩);rw[e2];exact i3
end
open Go.RowKit Go.Shelf Go.Lib
open Go.ChangeShapes Go.WideShapes Go.ChangeAt
theorem reached_lifted (os:Os) (started:os.Started) (H:Type) (enc:TypeId × Value→H) :
  ReturnsInHanded {} Tryz.checked os 4 .any (fun w args=>(Rows.reachedSpec.pre enc Tryz.prog Tryz.f4 [] false w args∧laidMetH Tryz.prog Rows.reachedRow.laid w)∧sizedMet enc Tryz.prog Tryz.f4 (OpenSpec.ofChange Rows.reachedSpec) false w args)
   (Rows.reachedSpec.post enc Tryz.prog Tryz.f4 false true false false):=by
 refine handed (C:=Tryz.checked) (X:=fun w _=>laidMetH Tryz.prog Rows.reachedRow.laid w) (fun _ _ _ hh h=>h.of_heap hh) own started (by kernel_rfl) Tryz.func4
  (ChangeSpec.witness_shaped (enc:=enc) (C:=Tryz.checked) (os:=os) (X:=fun w _=>laidMetH Tryz.prog Rows.reachedRow.laid w) false (World.laidAll Tryz.prog os Rows.reachedRow.laid) #[.int .i64 0,.slice none 0 0] 8 (World.laidAll_os _ _ _)
    (World.shaped_of_ZipB (by kernel_rfl) (by kernel_rfl)) (by kernel_rfl) (by kernel_rfl) (by kernel_rfl)
    (by rw[MakeChecks.laidMetH_plain _ _ _ (by kernel_rfl)];exact laidMet_laidAll _ (by kernel_rfl) (by kernel_rfl))) ?_
 intro W base args ds gs before hval0 hW hsh hL
 have hval:∀ (j:Nat) t v,Tryz.f4.params[j]? = some t→args[j]? = some v→Value.okWide Tryz.prog W .any base t v:=hval0
 have hW':=hW
 obtain⟨p,q,hA0,hV,rfl,_,_⟩:=hW
 have hA:DataW.TrodAll enc Tryz.prog W 0 (fun _=>true) true Tryz.f4.params.toList args.toList ds p:=hA0
 rw[Tryz.params4] at hA hval
 obtain⟨v0,vs0,d0,ds0,p0,q0,hargs,rfl,rfl,h0,r0⟩:=trodAll_cons hA
 obtain⟨v1,vs1,d1,ds1,p1,q1,hargs1,rfl,rfl,h1,r1⟩:=trodAll_cons r0
 obtain⟨rfl,rfl,rfl⟩:=trodAll_nil r1
 obtain rfl:args = #[v0,v1]:=by cases args;simp_all
 obtain⟨rfl,rfl⟩:=trodVars_none hV
 obtain⟨x,rfl,rfl,rfl,wx⟩:=open_int Tryz.underlying3 (hval 0 3 v0 rfl rfl) h0
 obtain⟨b0,bl,bc,rfl⟩:=okWide_slice Tryz.underlying32 (hval 1 32 v1 rfl rfl)
 clear hA0
 simp only[List.append_nil,List.nil_append] at hW'
 have hlt:∀ y ∈ p1,y.block < W.heap.size:=fun y hy=>by
  have:=hW'.lt y (by simpa using hy)
  simpa using this
 have s1:∀ (W':World),Below W.heap.size W W'→DataW.Trod enc Tryz.prog W' 0 (fun b=>decide (b < W.heap.size)) true 32 (.slice b0 bl bc) d1 p1 :=
  fun W' hn=>Below.trod rxLaidOut (by kernel_rfl) (of_decide_eq_true (by kernel_rfl)) h1 hn hlt
 obtain⟨_,f1⟩:=h1
 obtain⟨hlen,F,T,Wt,hR⟩:=roads_open f1
 have hx:=rx_i64 wx
 rw[MakeChecks.laidMetH_plain _ _ _ (by kernel_rfl)] at hL
 have hS:=shapes_of (Lib.laidMet.reads hL (.tail _ (.head _)))
 have hE:=err_of (Lib.laidMet.reads hL (.tail _ (.tail _ (.head _))))
 have hT:=tabs_of (Lib.laidMet.reads hL (.tail _ (.tail _ (.tail _ (.tail _ (.tail _ (.head _))))))) (Lib.laidMet.reads hL (.head _))
 obtain⟨z,f,hzf⟩:=errs_of hL
 refine(reached_any x b0 bl bc F T Wt z f W hx.1 hx.2 hR hlen hT ⟨hS,split_of hsh,hE⟩ hzf).mono fun e W' ⟨he,hb⟩=>?_
 subst he
 exact⟨_,rfl,_,_,_,[],_,[],hW',trodAll_mk1 (shut_bool Tryz.underlying4 _),trodAll_cons_mk (shut_int Tryz.underlying3 wx) (trodAll_cons_mk (s1 _ hb) trodAll_mk0),rfl,hb.frame _,fun h=>by cases h⟩
theorem reached_k9:((Rows.reachedRow.inPlace == Tryz.prog.inPlace 4))=true:=by kernel_rfl
theorem reached_k10:((Rows.reachedRow.unfollowed == Tryz.prog.unfollowed 4))=true:=by kernel_rfl
theorem reached_k11:((Rows.reachedRow.recurses == Tryz.prog.recurses 4))=true:=by kernel_rfl
theorem reached_k12:((Rows.reachedRow.named == Tryz.prog.varsNamed 4))=true:=by kernel_rfl
theorem reached_k0:(Rows.reachedRow.wf (OpenSpec.ofChange Rows.reachedSpec))=true:=by kernel_rfl
theorem reached_k1:(laidOutB Tryz.prog)=true:=by kernel_rfl
theorem reached_k2:(mapsRowed Tryz.prog)=true:=by kernel_rfl
theorem reached_k3:(Tryz.f4.params.all (Tryz.prog.readableRec ·))=true:=by kernel_rfl
theorem reached_k4:(namedTie Tryz.prog Rows.reachedRow.named Rows.reachedSpec.vars)=true:=by kernel_rfl
theorem reached_k5:((Rows.reachedRow.stops == []))=true:=by kernel_rfl
theorem reached_k6:((Tryz.prog.stops == []))=true:=by kernel_rfl
theorem reached_k7:((Rows.reachedRow.knobs == []))=true:=by kernel_rfl
theorem reached_k8:((Tryz.prog.stopKnobs == []))=true:=by kernel_rfl
theorem reached_k13:((Rows.reachedRow.maps == (Tryz.f4.params.toList++Rows.reachedSpec.plain.varTypes Tryz.prog).any (Tryz.prog.mapsRec ·)))=true:=by kernel_rfl
theorem reached_k14:((Rows.reachedRow.ifaces == (Tryz.f4.params.toList++Rows.reachedSpec.plain.varTypes Tryz.prog).any (Tryz.prog.ifacesRec ·)))=true:=by kernel_rfl
theorem reached_k15:((Rows.reachedRow.mapsOut == Tryz.prog.mapsAmong Tryz.f4.resultTypes.toList))=true:=by kernel_rfl
theorem reached_k16:((Rows.reachedRow.loops == (Tryz.f4.params.toList++Rows.reachedSpec.plain.varTypes Tryz.prog).any (Tryz.prog.loopsFrom ·)))=true:=by kernel_rfl
theorem reached_k17:((Rows.reachedRow.wideKeys == (Tryz.f4.params.toList++Rows.reachedSpec.plain.varTypes Tryz.prog++Tryz.f4.resultTypes.toList).any (Tryz.prog.wideKeysFrom ·)))=true:=by kernel_rfl
theorem reached_k18:(Rows.reachedSpec.vars.all (Tryz.prog.varReadable ·))=true:=by kernel_rfl
theorem reached_k19:(Tryz.f4.resultTypes.all (fun t=>Tryz.prog.readableRec t && decide (t < Tryz.prog.types.size)))=true:=by kernel_rfl
theorem reached_k20:((Rows.reachedRow.ifacesOut == Tryz.f4.resultTypes.toList.any (Tryz.prog.ifacesRec ·)))=true:=by kernel_rfl
theorem reached_k21:((Rows.reachedRow.loopsOut == Tryz.f4.resultTypes.toList.any (Tryz.prog.loopsFrom ·)))=true:=by kernel_rfl
theorem reached_k22:((Rows.reachedRow.plainKeys == Tryz.prog.plainKeys))=true:=by kernel_rfl
theorem reached_k23:(Rows.reachedRow.shortTexts.isNone)=true:=by kernel_rfl
theorem reached_k24:(Tryz.prog.stopsHeard)=true:=by kernel_rfl
theorem reached_k25:(Tryz.prog.mayEnter)=true:=by kernel_rfl
theorem reached_k26:((Rows.reachedRow.lifted == Tryz.prog.liftsFinal))=true:=by kernel_rfl
theorem reached_k27:((Tryz.prog.make == some Rows.reachedRow.make))=true:=by kernel_rfl
theorem reached_k28:((Rows.reachedRow.kinds == (if Rows.reachedRow.domain.isEmpty then [] else Tryz.f4.params.toList.map fun t=>match Tryz.prog.underlying t with | some (.int k)=>some k | _=>none)))=true:=by kernel_rfl
theorem reached_k29:((Rows.reachedRow.pinned == Rows.reachedRow.pinnedBy))=true:=by kernel_rfl
theorem reached_k30:((Rows.reachedRow.veiled == (Tryz.f4.params.toList++Rows.reachedSpec.plain.varTypes Tryz.prog++Tryz.f4.resultTypes.toList).any (Tryz.prog.veiledRec ·)))=true:=by kernel_rfl
theorem reached_k31:(Rows.reachedRow.veiledFits Tryz.prog Tryz.f4.params.toList (Tryz.f4.params.toList++Rows.reachedSpec.plain.varTypes Tryz.prog++Tryz.f4.resultTypes.toList))=true:=by kernel_rfl
theorem bandR {a b:Bool} (h1:a=true) (h2:b=true):(a && b)=true:=by rw[h1,h2];rfl
theorem reached_facts:joinedFacts Tryz.prog 4 Tryz.f4 Rows.reachedSpec Rows.reachedRow=true:=by
 unfold joinedFacts
 exact bandR (bandR (bandR (bandR (bandR (bandR (bandR (bandR (bandR (bandR (bandR (bandR (bandR (bandR (bandR (bandR (bandR (bandR (bandR (bandR (bandR (bandR (bandR (bandR (bandR (bandR (bandR (bandR (bandR (bandR (bandR reached_k0 reached_k1) reached_k2) reached_k3) reached_k4) reached_k5) reached_k6) reached_k7) reached_k8) reached_k9) reached_k10) reached_k11) reached_k12) reached_k13) reached_k14) reached_k15) reached_k16) reached_k17) reached_k18) reached_k19) reached_k20) reached_k21) reached_k22) reached_k23) reached_k24) reached_k25) reached_k26) reached_k27) reached_k28) reached_k29) reached_k30) reached_k31
theorem reached_fn:Tryz.prog.funcNamed Rows.reachedRow.func=some 4:=by kernel_rfl
theorem reached_inst:Tryz.f4.isInstance Tryz.prog Rows.reachedRow.origin Rows.reachedRow.targs:=of_decide_eq_true (by kernel_rfl)
theorem reached_wrap:Tryz.f4.isWrapper Tryz.prog Rows.reachedRow.wrapper Rows.reachedRow.mainSum:=by unfold Func.isWrapper;first | (rw[if_pos (by decide +kernel)];kernel_rfl) | (rw[if_neg (by decide +kernel)];exact⟨rfl,rfl⟩)
theorem reached_over:Rows.ReachedSaid :=
 OpenClaim.holds_of_wide 4 Tryz.f4 rfl rfl rfl rfl rfl rfl rfl ⟨rfl,rfl,rfl,rfl,rfl⟩ rfl rfl rfl rfl rfl reached_fn Tryz.func4 reached_facts reached_inst reached_wrap
  (fun os started H enc _=>reached_lifted os started H enc)
theorem reached_text:Rows.reachedRow.wfByText (OpenSpec.ofChange Rows.reachedSpec)=true:=by kernel_rfl
theorem reached_main_is : Tryz.prog.mainIs = some (true, "e3cda91d3dd411be2f0bf148e6c5b10a10a75331e19af840f64e93a2f02d2ce3".toList) := by kernel_rfl
theorem reached_looks_is:true=Tryz.prog.looks []:=by kernel_rfl
theorem reached_stand:([3,32].all fun u=>!Tryz.prog.wantsStandIn u)=true:=by kernel_rfl
theorem reached_goes:false=Rows.reachedRow.goesBy Tryz.prog:=by kernel_rfl
theorem reached_card:Rows.ReachedCardSaid :=
 Claim7.holds_tied_plain_at .later [] [.data, .data, .sentinel, .sentinel, .sentinel, .pinned] true (true, "e3cda91d3dd411be2f0bf148e6c5b10a10a75331e19af840f64e93a2f02d2ce3") true reached_over (fun _ h => by cases h) reached_text (fun _ h => by cases h) reached_row_tie rfl ⟨rfl, rfl⟩ reached_main_is rfl
  (fun f fn hf hfn=>by
    obtain rfl:f=4:=Option.some.inj (reached_fn.symm.trans hf) |>.symm
    obtain rfl:fn=Tryz.f4:=(Option.some.inj (Tryz.func4.symm.trans hfn)).symm
    exact⟨reached_looks_is,fun j t ht=>by
     rw[Tryz.params4] at ht
     have hm:t ∈ [3,32]:=by simpa using Array.mem_of_getElem? ht
     exact(show Tryz.prog.wantsStandIn t=false by simpa using List.all_eq_true.1 reached_stand t hm)⟩)
  reached_goes
#print axioms reached_card
end Go.Proofs.YteflnddphpjahaaGreatDoor
