import Derived.Test.YteflnddphpjahaaGreatDoorCnPkAtoRdC
import Derived.Test.YteflnddphpjahaaGreatDoorCnDtCtoDtD
set_option linter.unusedVariables false
set_option linter.unusedSimpArgs false
set_option maxRecDepth 100000
set_option maxHeartbeats 16000000
namespace Go.Proofs.YteflnddphpjahaaGreatDoor.Rd
open Go.RowKit
open Sd (Tb)
open Dk (Kept own_kept)
theorem now_any (D:Nat) (R:Rk) (vf vs vc:Value) (w:World) (h:RAt w D R vf vs vc) (h1:R.safe.length≤100000000) (h2:R.chs.length≤100000000) :
  Calls Tryz.prog 95 #[.pointer (some ⟨D,0,none⟩)] w (EnPost w R.now):=by
 have hd:=dir_any D R vf vs vc (R.chs.length:Int) w h h1 h2
 have hn:R.dir ((R.chs.length:Int)).toNat=R.now:=by rw[Int.toNat_natCast];rfl
 rw[hn] at hd
 obtain⟨_,_,cc,_⟩:=h.cells
 obtain⟨pc,cpc,rfl,_⟩:=chs_of_own h.rc
 clear h hn
 go_enter Tryz.func95,Tryz.ntmps95
 go_wp2_with fail
 refine hd.mono ?_
 rintro e w1 ⟨v1,rfl,ho,hb⟩
 go_wp2
 go_ret
 exact⟨_,rfl,ho,hb⟩
def optN:Option Nat→Int
 | some i=>(i:Int)
 | none=>-1
theorem rget_from {L:Tb} {a:ByteArray} {k:Nat} (h:k < L.length):rget (L.drop k) a=if L[k].1=a then some L[k].2 else rget (L.drop (k+1)) a:=by
 rw[List.drop_eq_getElem_cons h,rget_cons]
 by_cases e:L[k].1=a
 ·rw[if_pos e,if_pos e.symm]
 ·rw[if_neg e,if_neg (fun h=>e h.symm)]
theorem find_any (D:Nat) (R:Rk) (vf vs vc:Value) (a:ByteArray) (w:World) (h:RAt w D R vf vs vc) (h1:R.safe.length≤100000000) (h2:R.chs.length≤100000000) :
  Calls Tryz.prog 153 #[.pointer (some ⟨D,0,none⟩),.string a] w fun e w'=>e = .returned (.int .i64 (optN (rget R.now a)))∧Below w.heap.size w w':=by
 have hd:=now_any D R vf vs vc w h h1 h2
 have hlen:R.now.length≤200000000:=by have:=dir_len R R.chs.length;unfold Rk.now;omega
 obtain⟨L,hL⟩:∃ L,R.now=L:=⟨_,rfl⟩
 rw[hL] at hd hlen ⊢
 clear h hL h1 h2
 go_enter Tryz.func153,Tryz.ntmps153
 go_wp2_with fail
 refine hd.mono ?_
 rintro e w1 ⟨v1,rfl,ho,hb⟩
 obtain⟨p,cap,rfl,he⟩:=ents_of_own ho
 clear ho
 go_wp2_with fail
 go_loopw [6] (fun i wr=>∃ k:Nat,k≤L.length∧i = .int .i64 k∧wr=w1∧Hid (rget (L.drop k) a=rget L a)) (fun i _=>L.length - (intOf i).toNat)
 case atStart=>exact⟨0,Nat.zero_le _,rfl,rfl,rfl⟩
 case round =>
  obtain⟨k,hk,rfl,rfl,HG⟩:=hrel
  by_cases hlt:k < L.length
  ·obtain⟨g,rfl,hg,c0,c1⟩:=he k hlt
   have HS:=hde (rget_from (a:=a) hlt)
   obtain⟨x,hx⟩:∃ x,L[k]=x:=⟨_,rfl⟩
   rw[hx] at c0 c1 HS
   clear hx
   by_cases e:x.1=a
   ·have g1:=str_is e
    have HR:Hid (rget L a=some x.2):=by show _=_;rw[← uh HG,uh HS,if_pos e]
    clear e
    go_wp2
    go_ret
    exact⟨by rw[uh HR];rfl,hb⟩
   ·have g1:=str_ne e
    go_wp2
    go_roundw
    case rel=>exact⟨k+1,by omega,by go_num,by first | rfl | trivial,by show _=_;rw[← uh HG,uh HS,if_neg e]⟩
    case measure=>simp[intOf];omega
  ·obtain rfl:k=L.length:=by omega
   have HR:Hid (rget L a=none):=by show _=_;rw[← uh HG,List.drop_length];rfl
   go_wp2
   go_ret
   exact⟨by rw[uh HR];rfl,hb⟩
theorem fileName_any (s:ByteArray) (w:World):Calls Tryz.prog 226 #[.string s] w fun e w'=>e = .returned (.bool (fnm s))∧w'=w:=by
 by_cases hz:1≤s.size∧s.size≤12
 ·obtain⟨z1,z2⟩:=hz
  have HF:Hid (fnm s=s.data.toList.all fun b=>nmB b.toNat):=by show _=_;unfold fnm;rw[decide_eq_true z1,decide_eq_true z2];rfl
  have y1:¬ (s.size:Int) < 1:=by omega
  have y2:¬ (s.size:Int) > 12:=by omega
  go_enter Tryz.func226,Tryz.ntmps226
  go_wp2
  go_loopw [3] (fun i wr=>∃ k:Nat,k≤s.size∧i = .int .i64 k∧wr=w∧Hid (∀ j,j < k→nmB (Sp.bt s j)=true)) (fun i _=>s.size - (intOf i).toNat)
  case atStart=>exact⟨0,Nat.zero_le _,rfl,rfl,fun j hj=>by omega⟩
  case round =>
   obtain⟨k,hk,rfl,rfl,HA⟩:=hrel
   by_cases hlt:k < s.size
   ·have hb:=Sp.bt_of s k hlt
    have hb8:Sp.bt s k < 256:=by rw[← hb];exact UInt8.toNat_lt _
    obtain⟨b,hB⟩:∃ b,Sp.bt s k=b:=⟨_,rfl⟩
    rw[hB] at hb hb8
    have HB:=hde hB
    clear hB
    by_cases q1:97≤b∧b≤122
    ·obtain⟨q1,q2⟩:=q1
     have HN:Hid (nmB b=true):=by show _=_;unfold nmB;rw[decide_eq_true q1,decide_eq_true q2];rfl
     have r1:(b:Int) ≥ 97:=by omega
     have r2:(b:Int)≤122:=by omega
     by_cases q3:48≤b∧b≤57
     ·omega
     ·have r3:¬ (b:Int)≤57:=by omega
      have r4:(b:Int) ≥ 48:=by omega
      go_wp2
      go_roundw
      case rel=>exact⟨k+1,by omega,by go_num,by first | rfl | trivial,fun j hj=>by
       rcases Nat.lt_or_eq_of_le (Nat.le_of_lt_succ hj) with h | h
       ·exact(uh HA) j h
       ·subst h;rw[uh HB];exact uh HN⟩
      case measure=>simp[intOf];omega
    ·by_cases q3:48≤b∧b≤57
     ·obtain⟨q3,q4⟩:=q3
      have HN:Hid (nmB b=true):=by show _=_;unfold nmB;rw[decide_eq_true q3,decide_eq_true q4];simp
      have r1:¬ (b:Int) ≥ 97:=by omega
      have r3:(b:Int) ≥ 48:=by omega
      have r4:(b:Int)≤57:=by omega
      go_wp2
      go_roundw
      case rel=>exact⟨k+1,by omega,by go_num,by first | rfl | trivial,fun j hj=>by
       rcases Nat.lt_or_eq_of_le (Nat.le_of_lt_succ hj) with h | h
       ·exact(uh HA) j h
       ·subst h;rw[uh HB];exact uh HN⟩
      case measure=>simp[intOf];omega
     by_cases q5:b=46
     ·have HN:Hid (nmB b=true):=by show _=_;subst q5;rfl
      have r1:¬ (b:Int) ≥ 97:=by omega
      have r3:¬ (b:Int) ≥ 48:=by omega
      have r5:(b:Int)=46:=by omega
      clear q5
      go_wp2
      go_roundw
      case rel=>exact⟨k+1,by omega,by go_num,by first | rfl | trivial,fun j hj=>by
       rcases Nat.lt_or_eq_of_le (Nat.le_of_lt_succ hj) with h | h
       ·exact(uh HA) j h
       ·subst h;rw[uh HB];exact uh HN⟩
      case measure=>simp[intOf];omega
     have HNO:Hid (fnm s=false):=by
      show _=_
      rw[uh HF]
      apply Bool.eq_false_iff.2
      intro hh
      have h1:=List.all_eq_true.1 hh (s[k]'hlt) (by rw[show s[k]'hlt=s.data.toList[k]'(by rw[Array.length_toList];exact hlt) from rfl];exact List.getElem_mem _)
      rw[hb] at h1
      unfold nmB at h1
      simp only[Bool.or_eq_true,Bool.and_eq_true,decide_eq_true_iff] at h1
      omega
     have r5:¬ (b:Int)=46:=by omega
     by_cases p1:97≤b
     ·have r1:(b:Int) ≥ 97:=by omega
      have r2:¬ (b:Int)≤122:=by omega
      have r3:(b:Int) ≥ 48:=by omega
      have r4:¬ (b:Int)≤57:=by omega
      go_wp2
      go_ret
      exact⟨by rw[uh HNO];rfl,rfl⟩
     by_cases p2:48≤b
     ·have r1:¬ (b:Int) ≥ 97:=by omega
      have r3:(b:Int) ≥ 48:=by omega
      have r4:¬ (b:Int)≤57:=by omega
      go_wp2
      go_ret
      exact⟨by rw[uh HNO];rfl,rfl⟩
     ·have r1:¬ (b:Int) ≥ 97:=by omega
      have r3:¬ (b:Int) ≥ 48:=by omega
      go_wp2
      go_ret
      exact⟨by rw[uh HNO];rfl,rfl⟩
   ·obtain rfl:k=s.size:=by omega
    have HYES:Hid (fnm s=true):=by
     show _=_
     rw[uh HF,List.all_eq_true]
     intro x hx
     obtain⟨j,hj,rfl⟩:=List.mem_iff_getElem.1 hx
     have hj':j < s.size:=by rw[Array.length_toList] at hj;exact hj
     have:=(uh HA) j hj'
     rw[← Sp.bt_of s j hj'] at this
     exact this
    go_wp2
    go_ret
    exact⟨by rw[uh HYES];rfl,rfl⟩
 ·have HNO:Hid (fnm s=false):=by
   show _=_
   unfold fnm
   by_cases z1:1≤s.size
   ·rw[decide_eq_false (p:=s.size≤12) (fun h=>hz ⟨z1,h⟩)];simp
   ·rw[decide_eq_false z1];simp
  by_cases z1:1≤s.size
  ·have y1:¬ (s.size:Int) < 1:=by omega
   have y2:(s.size:Int) > 12:=by omega
   go_enter Tryz.func226,Tryz.ntmps226
   go_wp2
   go_ret
   exact⟨by rw[uh HNO];rfl,rfl⟩
  ·have y1:(s.size:Int) < 1:=by omega
   go_enter Tryz.func226,Tryz.ntmps226
   go_wp2
   go_ret
   exact⟨by rw[uh HNO];rfl,rfl⟩
theorem RAt.fz {w:World} {D:Nat} {R:Rk} {vf vs vc:Value} (h:RAt w D R vf vs vc) (j:Nat):w.frozen? ⟨D,j,none⟩=false:=by simp[World.frozen?,h.blk]
theorem blk_ne {w:World} {a b:Nat} {x y:Array Value} {t u:TypeId} {p q:Nat × Nat} (h:w.heap[a]? = some (.cells x t p)) (k:w.heap[b]? = some (.cells y u q)) (ht:t≠u):a≠b:=fun e=>by
 subst e;rw[h] at k;injection k with k;injection k with _ k;exact ht k
theorem own_blk {w:World} {B e size n g:Nat} {v:Value} {xs:List Value} (h:w.ownsRow B e size v n xs) (hg:v.ownBlock=some g):∃ cur,w.heap[g]? = some (.cells cur e (0,0))∧B≤g:=by
 rcases h.2 with ⟨rfl,_⟩ | ⟨g',cap,cur,rfl,hB,hgg,_⟩
 ·simp[Value.ownBlock] at hg
 ·have:g'=g:=by simpa [Value.ownBlock] using hg
  subst this
  exact⟨cur,hgg,hB⟩
theorem RAt.set {w:World} {D:Nat} {R:Rk} {vf vs vc:Value} (h:RAt w D R vf vs vc) {j:Nat} {u:Value} {R':Rk} (hc:(rkCells R vf vs vc).setIfInBounds j u=rkCells R' vf vs vc) (e1:R'.files=R.files) (e2:R'.safe=R.safe) (e3:R'.chs=R.chs):RAt (w.setCell ⟨D,j,none⟩ u) D R' vf vs vc:=by
 have hb:=heap_setCell_same w D j _ _ u h.blk
 rw[hc] at hb
 refine⟨hb,?_,?_,?_,?_⟩
 ·rw[e1]
  refine ownsRow_setCell_other h.rf (fun e=>?_) _
  obtain⟨c,hc,_⟩:=own_blk h.rf e
  exact blk_ne hc h.blk (by decide) rfl
 ·rw[e2]
  refine ownsRow_setCell_other h.rs (fun e=>?_) _
  obtain⟨c,hc,_⟩:=own_blk h.rs e
  exact blk_ne hc h.blk (by decide) rfl
 ·rw[e3]
  refine ownsRow_setCell_other h.rc (fun e=>?_) _
  obtain⟨c,hc,_⟩:=own_blk h.rc e
  exact blk_ne hc h.blk (by decide) rfl
 ·obtain⟨a,b,c,d,e⟩:=h.ok
  exact⟨by rw[e2];exact a,by rw[e2];exact b,by rw[e1,e2];exact c,by rw[e1,e3];exact d,by rw[e1];exact e⟩
def rOwn (D:Nat) (vf vs vc:Value) (k:Nat):Prop:=k=D∨vf.ownBlock=some k∨vs.ownBlock=some k∨vc.ownBlock=some k
structure RTo (w w':World) (D:Nat) (vf vs vc:Value) (R':Rk) (vf' vs' vc':Value):Prop where
 at':RAt w' D R' vf' vs' vc'
 kept:Kept w w' (fun k=>¬ rOwn D vf vs vc k)
 own:∀ k,rOwn D vf' vs' vc' k→rOwn D vf vs vc k∨w.heap.size≤k
theorem RTo.below {w w':World} {D:Nat} {R:Rk} {vf vs vc:Value} (h:RAt w D R vf vs vc) (hb:Below w.heap.size w w'):RTo w w' D vf vs vc R vf vs vc:=⟨h.below hb,Kept.below hb _,fun k hk=>Or.inl hk⟩
theorem RTo.trans {w w1 w2:World} {D:Nat} {vf vs vc vf1 vs1 vc1 vf2 vs2 vc2:Value} {R1 R2:Rk} (h:RTo w w1 D vf vs vc R1 vf1 vs1 vc1) (k:RTo w1 w2 D vf1 vs1 vc1 R2 vf2 vs2 vc2):RTo w w2 D vf vs vc R2 vf2 vs2 vc2:=by
 have hs:=h.kept.size
 refine⟨k.at',⟨k.kept.os.trans h.kept.os,k.kept.tape.trans h.kept.tape,k.kept.output.trans h.kept.output,Nat.le_trans hs k.kept.size,fun i hi hn=>?_⟩,fun i hi=>?_⟩
 ·rw[k.kept.block i (by omega) (fun h1=>by rcases h.own i h1 with h2 | h2;exact hn h2;omega),h.kept.block i hi hn]
 ·rcases k.own i hi with h1 | h1
  ·exact h.own i h1
  ·exact Or.inr (by omega)
theorem counts_any (D:Nat) (R:Rk) (vf vs vc:Value) (w:World) (h:RAt w D R vf vs vc) (hl : -9223372036854775808≤R.left∧R.left≤9223372036854775807) :
  Calls Tryz.prog 225 #[.pointer (some ⟨D,0,none⟩)] w fun e w'=>e = .returned (.bool R.up)∧RTo w w' D vf vs vc R.cnt vf vs vc∧w'.heap.size=w.heap.size:=by
 obtain⟨_,_,_,_,c4,c5⟩:=h.cells
 have f4:=h.fz 4
 have f5:=h.fz 5
 have hD:=blk_lt h.blk
 have HR:=hde h
 have hkeep:∀ j u,Kept w (w.setCell ⟨D,j,none⟩ u) (fun k=>¬ rOwn D vf vs vc k):=fun j u=>(Kept.refl w _).setCell (fun hk=>hk (Or.inl rfl)) _
 have HK:=hde hkeep
 clear h hkeep
 obtain⟨fi,sa,ch,li,le,dn⟩:=R
 simp only at c4 c5 hl
 cases dn with
 | true =>
  go_enter Tryz.func225,Tryz.ntmps225
  go_wp2
  go_ret
  exact⟨rfl,RTo.below (uh HR) (Below.refl _ _),rfl⟩
 | false =>
  by_cases h0:le=0
  ·subst h0
   go_enter Tryz.func225,Tryz.ntmps225
   go_wp2
   go_ret
   exact⟨rfl,⟨(uh HR).set (R':=⟨fi,sa,ch,li,0,true⟩) rfl rfl rfl rfl,(uh HK) _ _,fun k hk=>Or.inl hk⟩,by simp⟩
  ·by_cases hp:0 < le
   ·have hw:IntKind.i64.wrap (le - 1)=le - 1:=by rw[IntKind.wrap_i64];omega
    have HU:Hid (Rk.up ⟨fi,sa,ch,li,le,false⟩=true):=by show _=_;unfold Rk.up;simp[h0]
    have HC:Hid (Rk.cnt ⟨fi,sa,ch,li,le,false⟩=⟨fi,sa,ch,li,le - 1,false⟩):=by show _=_;unfold Rk.cnt;simp[h0,hp]
    go_enter Tryz.func225,Tryz.ntmps225
    go_wp2
    go_ret
    rw[uh HU,uh HC]
    exact⟨rfl,⟨(uh HR).set (R':=⟨fi,sa,ch,li,le - 1,false⟩) rfl rfl rfl rfl,(uh HK) _ _,fun k hk=>Or.inl hk⟩,by simp⟩
   ·have HU:Hid (Rk.up ⟨fi,sa,ch,li,le,false⟩=true):=by show _=_;unfold Rk.up;simp[h0]
    have HC:Hid (Rk.cnt ⟨fi,sa,ch,li,le,false⟩=⟨fi,sa,ch,li,le,false⟩):=by show _=_;unfold Rk.cnt;simp[h0,hp]
    go_enter Tryz.func225,Tryz.ntmps225
    go_wp2
    go_ret
    rw[uh HU,uh HC]
    exact⟨rfl,RTo.below (uh HR) (Below.refl _ _),rfl⟩
end Go.Proofs.YteflnddphpjahaaGreatDoor.Rd
