import Derived.Test.YteflnddphpjahaaGreatDoorCnDlQ
import Derived.Test.YteflnddphpjahaaGreatDoorRows
import Derived.WalkKit
import Derived.ProofKit
import Derived.OpenShut
import Derived.ShutString
import Derived.JoinedCond
set_option linter.unusedVariables false
set_option linter.unusedSimpArgs false
set_option maxRecDepth 100000
set_option maxHeartbeats 16000000
namespace Go.Proofs.YteflnddphpjahaaGreatDoor.Dl
open Go.RowKit
open Dk (Kept own_kept)
open Pk (own_sl blk_lt)
def OpOk (w:World) (o:Op):Prop:=o.a≤9223372036854775807∧-9223372036854775808≤o.kk∧o.kk≤9223372036854775807∧o.s.size≤1048576∧o.t.size≤1048576∧∃ kpp kn kc K,o.kv = .slice kpp kn kc∧Rd.KpAt w kpp kn K∧kn≤1048576
structure ScAt (w:World) (p:Option Addr) (L:List Op):Prop where
 cell:∀ j (hj:j < L.length),∃ g o,p=some ⟨g,o,none⟩∧g < w.heap.size∧w.cell? ⟨g,o+j * 9,none⟩=some (.int .i64 L[j].k)∧w.cell? ⟨g,o+j * 9+1,none⟩=some (.int .i64 L[j].a)∧w.cell? ⟨g,o+j * 9+2,none⟩=some (.int .i64 L[j].kk)∧w.cell? ⟨g,o+j * 9+3,none⟩=some (.string L[j].s)∧w.cell? ⟨g,o+j * 9+4,none⟩=some (.string L[j].t)∧w.cell? ⟨g,o+j * 9+5,none⟩=some L[j].kv∧w.cell? ⟨g,o+j * 9+6,none⟩=some (.int .i64 L[j].c0)∧w.cell? ⟨g,o+j * 9+7,none⟩=some (.int .i64 L[j].c1)∧w.cell? ⟨g,o+j * 9+8,none⟩=some (.int .i64 L[j].c2)
 ok:∀ o ∈ L,OpOk w o
 len:L.length≤100000
 bytes:(L.map (·.t.size)).sum≤1048576
def bs (L:List Op) (j:Nat):Nat:=((L.take j).map (·.t.size)).sum
theorem bs_succ (L:List Op) {j:Nat} (h:j < L.length):bs L (j+1)=bs L j+L[j].t.size:=by
 unfold bs
 rw[List.take_succ_eq_append_getElem h,List.map_append,List.sum_append]
 simp
theorem bs_all (L:List Op):bs L L.length=(L.map (·.t.size)).sum:=by unfold bs;rw[List.take_length]
theorem bs_le (L:List Op):∀ (d j:Nat),j+d=L.length→bs L j≤bs L L.length
 | 0,j,h=>by rw[show j=L.length by omega];exact Nat.le_refl _
 | d+1,j,h=>by
  have h1:=bs_le L d (j+1) (by omega)
  rw[bs_succ L (by omega)] at h1
  omega
def At (L:List Op) (w wr:World) (W j c:Nat) (b:Nat):Prop := ∃ Ps vd vr N vT vI ht hi,Inv w wr W Ps vd vr N vT vI ht hi j b∧Ps.length≤j∧N≤c∧ht.length≤4 * c∧hi.length≤c
theorem step_any (w0 w:World) (W:Nat) (Ps:List Pr) (vd vr:Value) (N:Nat) (vT vI:Value) (ht hi:List (Value × Int)) (n b:Nat) (o:Op) (hk:o.k≤13) (h:Inv w0 w W Ps vd vr N vT vI ht hi n b) (hm:Ps.length≤1000000) (hn:n≤100000) (hb:b≤1048576) (hN:N+1≤10000000) (hht:ht.length+4≤10000000) (hhi:hi.length+1≤10000000) (hO:OpOk w0 o) :
  Calls Tryz.prog 27 #[.pointer (some ⟨W,0,none⟩),.agg o.cells] w (SpPost w0 W Ps.length (n+1) (b+o.t.size) N ht.length hi.length):=by
 obtain⟨ha,hkk1,hkk2,hs,hts,kpp,kn,kc,K,hkv,hK,hkn⟩:=hO
 by_cases h1:o.k=1
 ·exact step_new w0 w W Ps vd vr N vT vI ht hi n b o h1 h hm
 ·exact step_disk w0 w W Ps vd vr N vT vI ht hi n b o hk h1 h hm hn hb hN hht hhi ha hkk1 hkk2 hs hts kpp kn kc K hkv hK hkn
theorem inv_new (w:World):Inv w (w.alloc (.cells (wCells (.slice none 0 0) (.slice none 0 0) 0 (.slice none 0 0) (.slice none 0 0)) 98)) w.heap.size [] (.slice none 0 0) (.slice none 0 0) 0 (.slice none 0 0) (.slice none 0 0) [] [] 0 0:=by
 refine⟨⟨heap_alloc_new w _,World.ownsRow_nil _ _ _ _,World.ownsRow_nil _ _ _ _,fun p hp=>(by cases hp),fun p hp=>(by cases hp),by simp⟩,World.ownsRow_nil _ _ _ _,World.ownsRow_nil _ _ _ _,fun p hp=>(by cases hp),fun i j hi=>(by cases hi),(Below.refl _ w).alloc nlr _,⟨Nat.le_refl _,fun g hg=>?_,fun g hg=>?_,fun g hg=>?_,fun g hg=>?_,fun p hp=>(by cases hp),fun p hp=>(by cases hp),fun p hp=>(by cases hp)⟩⟩ <;> simp[Value.ownBlock] at hg
theorem plays_any (p:Option Addr) (cap:Nat) (L:List Op) (w:World) (h:ScAt w p L) :
  Calls Tryz.prog 13 #[.slice p L.length cap,.int .i64 13] w fun e w'=>e = .returned (.bool true)∧Below w.heap.size w w':=by
 have H:=hde h
 have hl:=h.len
 have hb:=h.bytes
 have HI:=hde (inv_new w)
 unfold wCells at HI
 clear h
 go_enter Tryz.func13,Tryz.ntmps13
 go_wp2_with fail
 go_loopw [6] (fun i wr=>∃ j:Nat,j≤L.length∧i = .int .i64 j∧At L w wr w.heap.size j j (bs L j)) (fun i _=>L.length - (intOf i).toNat)
 case atStart=>exact⟨0,Nat.zero_le _,rfl,_,_,_,_,_,_,_,_,(uh HI),by simp,by simp,by simp,by simp⟩
 case round =>
  obtain⟨j,hj,rfl,Ps,vd,vr,N,vT,vI,ht,hi,hI,hP,hN,hT,hH⟩:=hrel
  by_cases hlt:j < L.length
  ·obtain⟨g,o,hp,hg,d0,d1,d2,d3,d4,d5,d6,d7,d8⟩:=(uh H).cell j hlt
   have hO:=(uh H).ok L[j] (List.getElem_mem _)
   have hbj:=bs_le L (L.length - j) j (by omega)
   rw[bs_all] at hbj
   have hbj2:=Nat.le_trans hbj hb
   have hnx:=bs_succ L hlt
   have hbb:∀ q,w.cell? ⟨g,q,none⟩=wr.cell? ⟨g,q,none⟩:=fun q=>(hI.base.cell (p:=⟨g,q,none⟩) hg).symm
   rw[hbb] at d0 d1 d2 d3 d4 d5 d6 d7 d8
   have hS:=fun (hk:L[j].k≤13)=>step_any w wr w.heap.size Ps vd vr N vT vI ht hi j (bs L j) L[j] hk hI (by omega) (by omega) hbj2 (by omega) (by omega) (by omega) hO
   subst hp
   have hjz:(j:Int) < (L.length:Int):=by omega
   have hj0:¬ (j:Int) < 0:=by omega
   have HS:=hde hS
   have HI2:=hde hI
   have HNX:=hde hnx
   clear hS hI hO hbj hbj2 hnx hbb
   obtain⟨x,hx⟩:∃ x,L[j]=x:=⟨_,rfl⟩
   rw[hx] at d0 d1 d2 d3 d4 d5 d6 d7 d8 HS HNX
   clear hx
   obtain⟨ok,oa,okk,s,t,kv,c0,c1,c2⟩:=x
   simp only at d0 d1 d2 d3 d4 d5 d6 d7 d8 HS HNX
   by_cases hk:(13:Int) < ok
   ·go_wp2
    go_roundw
    case rel=>exact⟨j+1,by omega,by go_num,_,_,_,_,_,_,_,_,(uh HI2).mono (by omega) (by rw[uh HNX];omega),by omega,by omega,by omega,by omega⟩
    case measure=>simp[intOf];omega
   ·have hC:=(uh HS) (by omega)
    unfold Op.cells at hC
    clear HS
    go_wp2_with fail
    refine hC.mono ?_
    rintro e w1 ⟨m,hm,rfl,Ps',vd',vr',N',vT',vI',ht',hi',hI',hm',hN',hT',hH'⟩
    have hD:=dry_any _ _ _ _ _ _ _ _ w1 hI'.wat
    have HI3:=hde hI'
    clear hC hI'
    have hWl:=blk_lt (uh HI3).wat.blk
    go_wp2_with fail
    refine hD.mono ?_
    rintro e w2 ⟨rfl,hb2⟩
    have HB2:=hde hb2
    clear hD hb2
    go_wp2
    go_roundw
    case rel=>exact⟨j+1,by omega,by go_num,_,_,_,_,_,_,_,_,by rw[uh HNX];exact(uh HI3).below (uh HB2),by omega,by omega,by omega,by omega⟩
    case measure=>simp[intOf];omega
  ·obtain rfl:j=L.length:=by omega
   have hjz:¬ (L.length:Int) < (L.length:Int):=by omega
   obtain⟨pd,cd,hvd⟩:=own_sl hI.rd
   have HVD:=hde hvd
   have hbl:bs L L.length≤1048576:=by rw[bs_all];exact hb
   have HBL:=hde hbl
   have HI2:=hde hI
   have HH:=hde hH
   clear hI hvd hbl hb
   go_wp2_with fail
   go_loopw [8] (fun i wr2=>∃ (k N':Nat) (vT':Value) (ht':List (Value × Int)),k≤Ps.length∧i = .int .i64 k∧Inv w wr2 w.heap.size Ps vd vr N' vT' vI ht' hi L.length (bs L L.length)∧N'≤L.length+k∧ht'.length≤4 * (L.length+k)) (fun i _=>Ps.length - (intOf i).toNat)
   case atStart=>exact⟨0,N,vT,ht,Nat.zero_le _,rfl,uh HI2,by omega,by omega⟩
   case round =>
    obtain⟨k,N',vT',ht',hk,rfl,hI',hN',hT'⟩:=hrel
    have x0:=hI'.wat.cell.1
    rw[uh HVD] at x0
    by_cases hlt:k < Ps.length
    ·have hE:=ends_any w _ w.heap.size Ps vd vr N' vT' vI ht' hi L.length (bs L L.length) k hI' hlt hl (uh HBL) (by omega) (by omega)
     have hkz:(k:Int) < (Ps.length:Int):=by omega
     clear hI'
     go_wp2_with fail
     refine hE.mono ?_
     rintro e w1 ⟨rfl,vT2,ht2,hI2,hlen⟩
     have HR:=hde (And.intro hI2 hlen)
     clear hE hI2 hlen x0
     go_wp2
     go_roundw
     case rel=>exact⟨k+1,N'+1,vT2,ht2,by omega,by go_num,(uh HR).1,by omega,by have:=(uh HR).2;omega⟩
     case measure=>simp[intOf];omega
    ·obtain rfl:k=Ps.length:=by omega
     have hkz:¬ (Ps.length:Int) < (Ps.length:Int):=by omega
     have HB:=hde hI'.base
     clear hI'
     go_wp2
     go_ret
     exact⟨rfl,uh HB⟩
theorem disks_any (p:Option Addr) (cap:Nat) (L:List Op) (w:World) (h:ScAt w p L) :
  Calls Tryz.prog 5 #[.slice p L.length cap] w fun e w'=>e = .returned (.bool true)∧Below w.heap.size w w':=by
 have hC:=plays_any p cap L w h
 clear h
 go_enter Tryz.func5,Tryz.ntmps5
 go_wp2_with fail
 refine hC.mono ?_
 rintro e w1 ⟨rfl,hb1⟩
 have HB:=hde hb1
 clear hb1 hC
 go_wp2
 go_ret
 exact⟨rfl,uh HB⟩
open Go.ChangeShapes Go.WideShapes Go.ChangeAt Go.RowKit
open Go.ChangeMaps (open_string shut_string)
theorem dksInt:Tryz.prog.cellsOf 3=1:=by kernel_rfl
theorem dksStr:Tryz.prog.cellsOf 9=1:=by kernel_rfl
theorem dksInts:Tryz.prog.cellsOf 72=1:=by kernel_rfl
theorem dksConf:Tryz.prog.cellsOf 100=3:=by kernel_rfl
theorem dksOp:Tryz.prog.cellsOf 102=9:=by kernel_rfl
theorem dks_i64 {x:Int} (h:(Lit.int .i64 x).wf=true) : -9223372036854775808≤x∧x≤9223372036854775807:=by
 simpa [Lit.wf,IntKind.min,IntKind.max,IntKind.signed,IntKind.bits] using h
theorem confFields:∃ f0 f1 f2:Field,Tryz.prog.underlying 100=some (.struct #[f0,f1,f2])∧f0.type=3∧f1.type=3∧f2.type=3∧f0.offset=0∧f1.offset=1∧f2.offset=2 :=
 ⟨_,_,_,Tryz.underlying100,rfl,rfl,rfl,rfl,rfl,rfl⟩
theorem opFields:∃ f0 f1 f2 f3 f4 f5 f6:Field,Tryz.prog.underlying 102=some (.struct #[f0,f1,f2,f3,f4,f5,f6])∧(f0.type=3∧f1.type=3∧f2.type=3∧f3.type=9∧f4.type=9∧f5.type=72∧f6.type=100)∧f0.offset=0∧f1.offset=1∧f2.offset=2∧f3.offset=3∧f4.offset=4∧f5.offset=5∧f6.offset=6 :=
 ⟨_,_,_,_,_,_,_,Tryz.underlying102,⟨rfl,rfl,rfl,rfl,rfl,rfl,rfl⟩,rfl,rfl,rfl,rfl,rfl,rfl,rfl⟩
section
variable {H:Type} {enc:TypeId × Value→H} {w:World}
theorem dks_spot {a:Addr} {v:Value} (h:w.cell? a=some v):a.spot=none∧a.block < w.heap.size:=by
 refine⟨?_,World.block_lt_of_cell? w _ h⟩
 unfold World.cell? at h
 split at h
 ·split at h
  ·cases h
  ·rename_i hn
   cases hs:a.spot with
   | none=>rfl
   | some z=>simp[hs] at hn
 ·cases h
theorem conf_one {fuel:Nat} {cs:List Value} {x:DataW H × List MemPlace} (h:DataW.trod enc Tryz.prog w 0 (fun _=>true) true fuel 100 cs=some x) :
  ∃ a b c,cs=[.int .i64 a,.int .i64 b,.int .i64 c]∧Rows.uptoBulk x.1=4:=by
 obtain⟨f0,f1,f2,hu,t0,t1,t2,o0,o1,o2⟩:=confFields
 obtain⟨xs,n,_,rfl,hl,hlen,hf⟩:=DataW.trod_struct hu h
 rw[dksConf] at hl
 match xs,hlen with
 | [y0,y1,y2],_ =>
  have g0:=hf 0 f0 rfl
  have g1:=hf 1 f1 rfl
  have g2:=hf 2 f2 rfl
  rw[t0,o0,dksInt] at g0
  rw[t1,o1,dksInt] at g1
  rw[t2,o2,dksInt] at g2
  obtain⟨a,e0,rfl,w0⟩:=DataW.trod_int Tryz.underlying3 (x:=y0) (by simpa using g0)
  obtain⟨b,e1,rfl,w1⟩:=DataW.trod_int Tryz.underlying3 (x:=y1) (by simpa using g1)
  obtain⟨c,e2,rfl,w2⟩:=DataW.trod_int Tryz.underlying3 (x:=y2) (by simpa using g2)
  match cs,hl with
  | [c0,c1,c2],_ =>
   simp at e0 e1 e2
   subst e0 e1 e2
   exact⟨a,b,c,rfl,by simp[Rows.uptoBulk,Rows.uptoBulkAll]⟩
theorem lits_bulk (k:IntKind) (zs:List Int):Rows.uptoBulkAll (lits (H:=H) k zs)=zs.length:=by
 unfold lits
 induction zs with
 | nil=>rfl
 | cons z r ih=>simp only[List.map_cons,Rows.uptoBulkAll,List.length_cons,ih,Rows.uptoBulk];omega
theorem ints_one {fuel:Nat} {cs:List Value} {x:DataW H × List MemPlace} (h:DataW.trod enc Tryz.prog w 0 (fun _=>true) true fuel 72 cs=some x) :
  ∃ p n c K,cs=[.slice p n c]∧Rd.KpAt w p n K∧n+1≤Rows.uptoBulk x.1:=by
 rcases open_ints Tryz.underlying72 Tryz.underlying3 dksInt h with ⟨hcs,hx⟩ | ⟨a,len',cap',zs,hcs,_,hl,hm,hz,hx,hcell,hwz⟩
 ·exact⟨none,0,0,fun _=>0,hcs,fun j hj=>by omega,by rw[hx];simp[Rows.uptoBulk]⟩
 ·simp only[if_true] at hz
  refine⟨some a,len',cap',fun j=>zs.getD j 0,hcs,fun j hj=>?_,?_⟩
  ·have hc:=hcell j (by omega)
   have h0:=dks_spot (hcell 0 (by omega))
   obtain⟨g,o,sp⟩:=a
   simp[Addr.add] at h0
   obtain⟨rfl,hg⟩:=h0
   have hjz:j < zs.length:=by omega
   have hwf:=dks_i64 (hwz (zs.getD j 0) (by rw[List.getD_eq_getElem?_getD,List.getElem?_eq_getElem hjz];exact List.getElem_mem _))
   refine⟨g,o,rfl,hg,?_,hwf.1,hwf.2⟩
   have ea:(⟨g,o,none⟩:Addr).add j=⟨g,o+j,none⟩:=by
    unfold Addr.add
    split <;> simp_all
   rw[← ea]
   exact hc
  ·rw[hx]
   simp only[Rows.uptoBulk,lits_bulk,List.length_take,List.length_drop]
   omega
def OpIn (w:World) (o:Op) (B:Nat):Prop:=(-9223372036854775808≤o.a∧o.a≤9223372036854775807)∧(-9223372036854775808≤o.kk∧o.kk≤9223372036854775807)∧∃ kpp kn kc K,o.kv = .slice kpp kn kc∧Rd.KpAt w kpp kn K∧o.s.size+o.t.size+kn+11≤B
theorem op_one {fuel:Nat} {cs:List Value} {x:DataW H × List MemPlace} (h:DataW.trod enc Tryz.prog w 0 (fun _=>true) true fuel 102 cs=some x) :
  ∃ o:Op,cs=o.cells.toList∧OpIn w o (Rows.uptoBulk x.1):=by
 obtain⟨f0,f1,f2,f3,f4,f5,f6,hu,⟨t0,t1,t2,t3,t4,t5,t6⟩,o0,o1,o2,o3,o4,o5,o6⟩:=opFields
 obtain⟨xs,n,_,rfl,hl,hlen,hf⟩:=DataW.trod_struct hu h
 rw[dksOp] at hl
 match xs,hlen with
 | [y0,y1,y2,y3,y4,y5,y6],_ =>
  have g0:=hf 0 f0 rfl
  have g1:=hf 1 f1 rfl
  have g2:=hf 2 f2 rfl
  have g3:=hf 3 f3 rfl
  have g4:=hf 4 f4 rfl
  have g5:=hf 5 f5 rfl
  have g6:=hf 6 f6 rfl
  rw[t0,o0,dksInt] at g0
  rw[t1,o1,dksInt] at g1
  rw[t2,o2,dksInt] at g2
  rw[t3,o3,dksStr] at g3
  rw[t4,o4,dksStr] at g4
  rw[t5,o5,dksInts] at g5
  rw[t6,o6,dksConf] at g6
  obtain⟨k,e0,rfl,w0⟩:=DataW.trod_int Tryz.underlying3 (x:=y0) (by simpa using g0)
  obtain⟨a,e1,rfl,w1⟩:=DataW.trod_int Tryz.underlying3 (x:=y1) (by simpa using g1)
  obtain⟨b,e2,rfl,w2⟩:=DataW.trod_int Tryz.underlying3 (x:=y2) (by simpa using g2)
  obtain⟨s,e3,rfl,w3⟩:=DataW.trod_string Tryz.underlying9 (x:=y3) (by simpa using g3)
  obtain⟨t,e4,rfl,w4⟩:=DataW.trod_string Tryz.underlying9 (x:=y4) (by simpa using g4)
  obtain⟨kpp,kn,kc,K,e5,hK,hb5⟩:=ints_one (x:=y5) (by simpa using g5)
  obtain⟨c0,c1,c2,e6,hb6⟩:=conf_one (x:=y6) (by simpa using g6)
  match cs,hl with
  | [d0,d1,d2,d3,d4,d5,d6,d7,d8],_ =>
   simp at e0 e1 e2 e3 e4 e5 e6
   obtain⟨rfl,rfl,rfl⟩:=e6
   subst e0 e1 e2 e3 e4 e5
   refine⟨⟨k,a,b,s,t,.slice kpp kn kc,c0,c1,c2⟩,rfl,dks_i64 w1,dks_i64 w2,kpp,kn,kc,K,rfl,hK,?_⟩
   have e1:s.data.toList.length=s.size:=by rw[Array.length_toList];rfl
   have e2:t.data.toList.length=t.size:=by rw[Array.length_toList];rfl
   simp only[List.map_cons,List.map_nil,Rows.uptoBulk,Rows.uptoBulkAll,hb6]
   show s.size+t.size+kn+11≤_
   omega
end
section
variable {H:Type} {enc:TypeId × Value→H} {w:World}
theorem bulk_ops:∀ (l:List (DataW H × List MemPlace)) (L:List Op),L.length≤l.length→(∀ i (h:i < L.length) (h':i < l.length),(L[i]).t.size+11≤Rows.uptoBulk (l[i]).1)→11 * L.length+(L.map (·.t.size)).sum≤Rows.uptoBulkAll (l.map (·.1))
 | _,[],_,_=>by simp
 | [],o :: L,hl,_=>by simp at hl
 | y :: l,o :: L,hl,h=>by
  have h0:=h 0 (by simp) (by simp)
  have ih:=bulk_ops l L (by simpa using hl) (fun i h1 h2=>by have:=h (i+1) (by simpa using h1) (by simpa using h2);simpa using this)
  simp only[List.getElem_cons_zero] at h0
  simp only[List.map_cons,List.sum_cons,List.length_cons,Rows.uptoBulkAll]
  omega
theorem bulk_mem:∀ (l:List (DataW H × List MemPlace)) (y:DataW H × List MemPlace),y ∈ l→Rows.uptoBulk y.1≤Rows.uptoBulkAll (l.map (·.1))
 | y :: l,z,h=>by
  simp only[List.map_cons,Rows.uptoBulkAll]
  rcases List.mem_cons.1 h with e | e
  ·rw[e];omega
  ·have:=bulk_mem l z e;omega
theorem script_open {fuel:Nat} {p:Option Addr} {len cap:Nat} {x:DataW H × List MemPlace} (h:DataW.trod enc Tryz.prog w 0 (fun _=>true) true fuel 48 (Value.slice p len cap).cells.toList=some x) (hB:Rows.uptoBulk x.1≤1048576) :
  ∃ L:List Op,L.length=len∧ScAt w p L:=by
 rcases DataW.trod_slice Tryz.underlying48 h with ⟨hcs,hx⟩ | ⟨a,len',cap',elems,rest,n,_,hcs,hx,_,hl,hm,hlen,hel,_,_⟩
 ·simp[Value.cells] at hcs
  obtain⟨rfl,rfl,rfl⟩:=hcs
  exact⟨[],rfl,fun j hj=>(by cases hj),fun o ho=>(by cases ho),by simp,by simp⟩
 ·simp[Value.cells] at hcs
  obtain⟨rfl,rfl,rfl⟩:=hcs
  rw[dksOp] at hel
  have each:∀ i,i < len→∃ (o:Op) (y:DataW H × List MemPlace),elems[i]? = some y∧w.cells? 0 (a.add (i * 9)) 9=some o.cells.toList∧OpIn w o (Rows.uptoBulk y.1):=by
   intro i hi
   have hE:=hel i hi
   have hy:elems[i]? = some elems[i]:=List.getElem?_eq_getElem (by omega)
   rw[hy,Option.bind_eq_some_iff] at hE
   obtain⟨cs,hc,ht⟩:=hE
   obtain⟨o,rfl,ho⟩:=op_one ht
   exact⟨o,_,hy,hc,ho⟩
  have eachO:∃ F:Nat→Op,∀ i,i < len→∃ y,elems[i]? = some y∧w.cells? 0 (a.add (i * 9)) 9=some (F i).cells.toList∧OpIn w (F i) (Rows.uptoBulk y.1):=by
   refine⟨fun i=>if hi:i < len then (each i hi).choose else ⟨0,0,0,⟨#[]⟩,⟨#[]⟩,.slice none 0 0,0,0,0⟩,fun i hi=>?_⟩
   simp only[dif_pos hi]
   exact(each i hi).choose_spec
  obtain⟨F,hF⟩:=eachO
  clear each
  have hbk:Rows.uptoBulkAll (elems.map (·.1))≤1048575:=by
   rw[hx] at hB
   simp only[Rows.uptoBulk] at hB
   omega
  have hone:∀ i,i < len→∀ y,elems[i]? = some y→Rows.uptoBulk y.1≤1048575:=fun i hi y hy=>Nat.le_trans (bulk_mem elems y (List.mem_of_getElem? hy)) hbk
  have hcell:∀ i,i < len→∀ c,c < 9→w.cell? ((a.add (i * 9)).add c)=((F i).cells.toList)[c]?:=fun i hi c hc=>by
   obtain⟨y,_,h2,_⟩:=hF i hi
   exact(World.cells?_some h2).2.2 c hc
  have hsum:=bulk_ops elems ((List.range len).map F) (by simp;omega) (fun i h1 h2=>by
   have hi:i < len:=by simpa using h1
   obtain⟨y,hy,_,_,_,kpp,kn,kc,K,_,_,hb⟩:=hF i hi
   rw[List.getElem?_eq_getElem h2] at hy
   obtain rfl:=Option.some.inj hy
   simp only[List.getElem_map,List.getElem_range]
   omega)
  refine⟨(List.range len).map F,by simp,fun j hj=>?_,fun o ho=>?_,?_,?_⟩
  ·have hj':j < len:=by simpa using hj
   have z0:=hcell 0 (by omega) 0 (by omega)
   have hc:=hcell j hj'
   simp only[List.getElem_map,List.getElem_range]
   obtain⟨g,o,sp⟩:=a
   have z1:w.cell? (((⟨g,o,sp⟩:Addr).add (0 * 9)).add 0)=some (.int .i64 (F 0).k):=z0
   have hs:=dks_spot z1
   simp[Addr.add] at hs
   obtain⟨rfl,hg⟩:=hs
   have ea:∀ m q,((⟨g,o,none⟩:Addr).add m).add q=⟨g,o+m+q,none⟩:=by
    intro m q
    unfold Addr.add
    split <;> split <;> simp_all
   simp only[ea] at hc
   exact⟨g,o,rfl,hg,hc 0 (by omega),hc 1 (by omega),hc 2 (by omega),hc 3 (by omega),hc 4 (by omega),hc 5 (by omega),hc 6 (by omega),hc 7 (by omega),hc 8 (by omega)⟩
  ·obtain⟨i,hi,rfl⟩:=List.mem_map.1 ho
   have hi':i < len:=by simpa using hi
   obtain⟨y,hy,_,ha,hkk,kpp,kn,kc,K,hkv,hK,hb⟩:=hF i hi'
   have:=hone i hi' y hy
   exact⟨ha.2,hkk.1,hkk.2,by omega,by omega,kpp,kn,kc,K,hkv,hK,by omega⟩
  ·have:((List.range len).map F).length=len:=by simp
   omega
  ·omega
end
end Go.Proofs.YteflnddphpjahaaGreatDoor.Dl
