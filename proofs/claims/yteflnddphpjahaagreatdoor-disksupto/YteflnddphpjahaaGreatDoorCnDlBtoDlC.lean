import Derived.Test.YteflnddphpjahaaGreatDoorCnPkPtoDlA
import Derived.Deep.RegionHeld3
import Derived.Deep.DeepMust
set_option linter.unusedVariables false
set_option linter.unusedSimpArgs false
set_option maxRecDepth 100000
set_option maxHeartbeats 16000000
namespace Go.Proofs.YteflnddphpjahaaGreatDoor.Dl
open Go.RowKit
open Rd (strs drN)
open Dk (Kept own_kept)
def Mrk (w:World) (e:Nat) (u v:Value):Prop := ∃ n,n≤2000000∧w.ownsRow 0 e 1 v n (List.replicate n u)
theorem mrk_at {w:World} {e:Nat} {u v:Value} (h:Mrk w e u v):∃ q n cap,v = .slice q n cap∧n≤2000000∧∀ k,k < n→∃ g,q=some ⟨g,0,none⟩∧w.cell? ⟨g,k,none⟩=some u:=by
 obtain⟨n,hn,ho⟩:=h
 obtain⟨q,cap,hq,hc⟩:=osl ho
 refine⟨q,n,cap,hq,hn,fun k hk=>?_⟩
 obtain⟨g,hg,_,_,c⟩:=hc k (by omega)
 exact⟨g,hg,c.trans (by rw[List.getElem?_replicate,if_pos hk])⟩
theorem Mrk.kept {w w':World} {e:Nat} {u v:Value} {ok:Nat→Prop} (h:Mrk w e u v) (hk:Kept w w' ok) (ho:∀ g,v.ownBlock=some g→ok g):Mrk w' e u v:=by
 obtain⟨n,hn,hr⟩:=h
 exact⟨n,hn,own_kept hr hk ho⟩
theorem ents_get (l:List (Value × Int)):∀ (i:Nat) (h:i < l.length),(hCells l)[i * 2]? = some l[i].1∧(hCells l)[i * 2+1]? = some (.int .i64 l[i].2):=by
 induction l with
 | nil=>intro i h;simp at h
 | cons p l ih =>
  intro i h
  cases i with
  | zero=>exact⟨rfl,rfl⟩
  | succ i =>
   have:=ih i (by simpa using h)
   have e:hCells (p :: l)=[p.1,Value.int .i64 p.2]++hCells l:=rfl
   have a0:(i+1) * 2=i * 2+2:=by omega
   rw[e,a0]
   simp only[List.cons_append,List.nil_append,List.getElem_cons_succ]
   exact this
theorem ent_at {w:World} {B e:Nat} {v:Value} {l:List (Value × Int)} (h:w.ownsRow B e 2 v l.length (hCells l)) (i:Nat) (hi:i < l.length) :
  ∃ g cap,v = .slice (some ⟨g,0,none⟩) l.length cap∧w.cell? ⟨g,i * 2,none⟩=some l[i].1∧w.cell? ⟨g,i * 2+1,none⟩=some (.int .i64 l[i].2):=by
 obtain⟨p,cap,rfl,hc⟩:=osl h
 obtain⟨e1,e2⟩:=ents_get l i hi
 obtain⟨g,hp,_,_,c0⟩:=hc (i * 2) (by omega)
 obtain⟨g1,hp1,_,_,c1⟩:=hc (i * 2+1) (by omega)
 have q1:g1=g:=by rw[hp] at hp1;injection hp1 with q;injection q with q;exact q.symm
 subst q1 hp
 exact⟨_,cap,rfl,c0.trans e1,c1.trans e2⟩
def wCells (vd vr:Value) (N:Nat) (vT vI:Value):Array Value := #[vd,vr,.int .i64 N,.slice none 0 0,.slice none 0 0,.slice none 0 0,vT,vI]
structure WAt (w:World) (W:Nat) (vd vr:Value) (N:Nat) (vT vI:Value) (ht hi:List (Value × Int)):Prop where
 blk:w.heap[W]? = some (.cells (wCells vd vr N vT vI) 98 (0,0))
 rT:w.ownsRow 0 71 2 vT ht.length (hCells ht)
 rI:w.ownsRow 0 74 2 vI hi.length (hCells hi)
 mT:∀ p ∈ ht,0≤p.2∧p.2≤4398046511104∧Mrk w 9 (.string (mt p.2.toNat)) p.1
 mI:∀ p ∈ hi,Mrk w 3 (.int .i64 p.2) p.1
 small:N≤10000000∧ht.length≤10000000∧hi.length≤10000000
theorem WAt.below {w w':World} {W:Nat} {vd vr:Value} {N:Nat} {vT vI:Value} {ht hi:List (Value × Int)} (h:WAt w W vd vr N vT vI ht hi) (hb:Below w.heap.size w w'):WAt w' W vd vr N vT vI ht hi :=
 ⟨(hb.block W (Pk.blk_lt h.blk)).trans h.blk,obl h.rT hb,obl h.rI hb,fun p hp=>⟨(h.mT p hp).1,(h.mT p hp).2.1,by obtain⟨n,hn,ho⟩:=(h.mT p hp).2.2;exact⟨n,hn,obl ho hb⟩⟩,fun p hp=>by obtain⟨n,hn,ho⟩:=h.mI p hp;exact⟨n,hn,obl ho hb⟩,h.small⟩
theorem WAt.cell {w:World} {W:Nat} {vd vr:Value} {N:Nat} {vT vI:Value} {ht hi:List (Value × Int)} (h:WAt w W vd vr N vT vI ht hi):w.cell? ⟨W,0,none⟩=some vd∧w.cell? ⟨W,1,none⟩=some vr∧w.cell? ⟨W,2,none⟩=some (.int .i64 N)∧w.cell? ⟨W,3,none⟩=some (.slice none 0 0)∧w.cell? ⟨W,4,none⟩=some (.slice none 0 0)∧w.cell? ⟨W,5,none⟩=some (.slice none 0 0)∧w.cell? ⟨W,6,none⟩=some vT∧w.cell? ⟨W,7,none⟩=some vI:=by
 refine⟨?_,?_,?_,?_,?_,?_,?_,?_⟩ <;> (rw[cell_of_row w W _ _ _ _ h.blk];rfl)
theorem WAt.fz {w:World} {W:Nat} {vd vr:Value} {N:Nat} {vT vI:Value} {ht hi:List (Value × Int)} (h:WAt w W vd vr N vT vI ht hi) (j:Nat):w.frozen? ⟨W,j,none⟩=false:=by simp[World.frozen?,h.blk]
theorem dry_any (W:Nat) (vd vr:Value) (N:Nat) (vT vI:Value) (ht hi:List (Value × Int)) (w:World) (h:WAt w W vd vr N vT vI ht hi) :
  Calls Tryz.prog 8 #[.pointer (some ⟨W,2,none⟩)] w fun e w'=>e = .returned (.bool true)∧Below w.heap.size w w':=by
 have H:=hde h
 have c3:=h.cell.2.2.2.1
 have s1:=h.small.2.1
 have s2:=h.small.2.2
 clear h
 go_enter Tryz.func8,Tryz.ntmps8
 go_wp2_with fail
 go_loopw [3,4] (fun ok i wr=>i = .int .i64 0∧ok = .bool true∧Below w.heap.size w wr) (fun _ _ _=>0)
 case atStart=>exact⟨rfl,rfl,Below.refl _ _⟩
 case round =>
 clear c3
 obtain⟨rfl,rfl,hb⟩:=hrel
 have c3:=((uh H).below hb).cell.2.2.2.1
 go_wp2_with fail
 go_loopw [3,6] (fun ok i wr=>i = .int .i64 0∧ok = .bool true∧Below w.heap.size w wr) (fun _ _ _=>0)
 case atStart=>exact⟨rfl,rfl,hb⟩
 case round =>
 clear c3 hb
 obtain⟨rfl,rfl,hb⟩:=hrel
 have c4:=((uh H).below hb).cell.2.2.2.2.1
 go_wp2_with fail
 go_loopw [3,8] (fun ok i wr=>i = .int .i64 0∧ok = .bool true∧Below w.heap.size w wr) (fun _ _ _=>0)
 case atStart=>exact⟨rfl,rfl,hb⟩
 case round =>
 clear c4 hb
 obtain⟨rfl,rfl,hb⟩:=hrel
 have c5:=((uh H).below hb).cell.2.2.2.2.2.1
 go_wp2_with fail
 go_loopw [3,10] (fun ok i wr=>∃ k:Nat,k≤ht.length∧i = .int .i64 k∧ok = .bool true∧Below w.heap.size w wr) (fun _ i _=>ht.length - (intOf i).toNat)
 case atStart=>exact⟨0,Nat.zero_le _,rfl,rfl,hb⟩
 case round =>
 clear c5 hb
 obtain⟨k,hk,rfl,rfl,hb⟩:=hrel
 have hr:=(uh H).below hb
 have c6:=hr.cell.2.2.2.2.2.2.1
 by_cases hlt:k < ht.length
 ·obtain⟨G,cap,hG,e0,e1⟩:=ent_at hr.rT k hlt
  rw[hG] at c6
  obtain⟨q,n,cq,hq,hn9,hcq⟩:=mrk_at (hr.mT ht[k] (List.getElem_mem hlt)).2.2
  rw[hq] at e0
  have HQ:=hde hq
  have HG:=hde hG
  clear hq hG hr
  go_wp2_with fail
  go_loopw [3,11] (fun ok i wr=>∃ j:Nat,j≤n∧i = .int .i64 j∧ok = .bool true∧Below w.heap.size w wr) (fun _ i _=>n - (intOf i).toNat)
  case atStart=>exact⟨0,Nat.zero_le _,rfl,rfl,hb⟩
  case round =>
   clear c6 e0 e1 hcq hb
   obtain⟨j,hj,rfl,rfl,hb⟩:=hrel
   have hr:=(uh H).below hb
   have c6:=hr.cell.2.2.2.2.2.2.1
   rw[uh HG] at c6
   obtain⟨G',cap',e',e0,e1⟩:=ent_at hr.rT k hlt
   rw[uh HG] at e'
   injection e' with e' _ e''
   injection e' with e'
   injection e' with e'
   subst e' e''
   obtain⟨bm0,bm1,hmk⟩:=hr.mT ht[k] (List.getElem_mem hlt)
   obtain⟨q',n',cq',hq',_,hcq⟩:=mrk_at hmk
   rw[uh HQ] at hq'
   injection hq' with e1' e2' e3'
   subst e1' e2' e3'
   rw[uh HQ] at e0
   by_cases hltj:j < n
   ·obtain⟨g,hqg,hc⟩:=hcq j hltj
    have hk1:(k:Int) < (ht.length:Int):=by omega
    have hj1:(j:Int) < (n:Int):=by omega
    obtain⟨m,hm⟩:∃ m:Nat,ht[k].2=(m:Int):=⟨ht[k].2.toNat,by omega⟩
    rw[hm] at e1 hc bm1
    rw[Int.toNat_natCast] at hc
    have hm9:m≤4398046511104:=by omega
    have hmm:((mt m).toList == (mt m).toList)=true:=Rd.str_is rfl
    have z0:=World.block_lt_of_cell? wr _ c6
    have z1:=World.block_lt_of_cell? wr _ e0
    have z2:=World.block_lt_of_cell? wr _ hc
    subst hqg
    have HMT:Hid (∀ V:World,(V.cell? ⟨W,6,none⟩=some (.slice (some ⟨G,0,none⟩) ht.length cap)∧V.cell? ⟨G,k * 2,none⟩=some (.slice (some ⟨g,0,none⟩) n cq)∧V.cell? ⟨G,k * 2+1,none⟩=some (.int .i64 (m:Int))∧V.cell? ⟨g,j,none⟩=some (.string (mt m)))→Calls Tryz.prog 19 #[.int .i64 (m:Int)] V fun e w'=>e = .returned (.string (mt m))∧Below V.heap.size V w'∧w'.cell? ⟨W,6,none⟩=some (.slice (some ⟨G,0,none⟩) ht.length cap)∧w'.cell? ⟨G,k * 2,none⟩=some (.slice (some ⟨g,0,none⟩) n cq)∧w'.cell? ⟨G,k * 2+1,none⟩=some (.int .i64 (m:Int))∧w'.cell? ⟨g,j,none⟩=some (.string (mt m))):=fun V ⟨s1,s2,s3,s4⟩=>(markText_any m V hm9).mono fun e w' ⟨he,hbm⟩ =>
     ⟨he,hbm,(hbm.cell (p:=⟨W,6,none⟩) (World.block_lt_of_cell? V _ s1)).trans s1,(hbm.cell (p:=⟨G,k * 2,none⟩) (World.block_lt_of_cell? V _ s2)).trans s2,(hbm.cell (p:=⟨G,k * 2+1,none⟩) (World.block_lt_of_cell? V _ s3)).trans s3,(hbm.cell (p:=⟨g,j,none⟩) (World.block_lt_of_cell? V _ s4)).trans s4⟩
    clear hcq hm bm0 bm1 hmk hr
    go_wp2_with fail
    go_region_held3 (fun w'=>w'.cell? ⟨W,6,none⟩=some (.slice (some ⟨G,0,none⟩) ht.length cap)∧w'.cell? ⟨G,k * 2,none⟩=some (.slice (some ⟨g,0,none⟩) n cq)∧w'.cell? ⟨G,k * 2+1,none⟩=some (.int .i64 (m:Int))∧w'.cell? ⟨g,j,none⟩=some (.string (mt m)))
     (first | (go_keep;done) | (refine⟨?_,?_,?_,?_⟩ <;> assumption))
     (first | (go_at_call 19;refine((uh HMT) _ (by first | assumption | (refine⟨?_,?_,?_,?_⟩ <;> assumption))).mono ?_;rintro e w' ⟨rfl,hbm,k1,k2,k3,k4⟩))
    have hbn:Below w.heap.size w w':=hb.drew.trans (hbm.mono (by have:=hb.size;simpa using this))
    clear hbm k1 k2 k3 k4
    go_wp2
    go_roundw
    case rel=>exact⟨j+1,by omega,by go_num,by trivial,hbn⟩
    case measure=>simp[intOf];omega
   ·obtain rfl:j=n:=by omega
    go_wp2
    go_roundw
    case rel=>exact⟨k+1,by omega,by go_num,by trivial,hb⟩
    case measure=>simp[intOf];omega
 ·obtain rfl:k=ht.length:=by omega
  obtain⟨p1,k1,hp1,_⟩:=osl hr.rT
  rw[hp1] at c6
  clear hp1 hr
  go_wp2_with fail
  go_loopw [3,12] (fun ok i wr=>∃ k:Nat,k≤hi.length∧i = .int .i64 k∧ok = .bool true∧Below w.heap.size w wr) (fun _ i _=>hi.length - (intOf i).toNat)
  case atStart=>exact⟨0,Nat.zero_le _,rfl,rfl,hb⟩
  case round =>
  clear c6 hb
  obtain⟨k,hk,rfl,rfl,hb⟩:=hrel
  have hr:=(uh H).below hb
  have c7:=hr.cell.2.2.2.2.2.2.2
  by_cases hlt:k < hi.length
  ·obtain⟨G,cap,hG,e0,e1⟩:=ent_at hr.rI k hlt
   rw[hG] at c7
   obtain⟨q,n,cq,hq,hn9,hcq⟩:=mrk_at (hr.mI hi[k] (List.getElem_mem hlt))
   rw[hq] at e0
   have HQ:=hde hq
   have HG:=hde hG
   clear hq hG hr
   go_wp2_with fail
   go_loopw [3,13] (fun ok i wr=>∃ j:Nat,j≤n∧i = .int .i64 j∧ok = .bool true∧Below w.heap.size w wr) (fun _ i _=>n - (intOf i).toNat)
   case atStart=>exact⟨0,Nat.zero_le _,rfl,rfl,hb⟩
   case round =>
    clear c7 e0 e1 hcq hb
    obtain⟨j,hj,rfl,rfl,hb⟩:=hrel
    have hr:=(uh H).below hb
    have c7:=hr.cell.2.2.2.2.2.2.2
    rw[uh HG] at c7
    obtain⟨G',cap',e',e0,e1⟩:=ent_at hr.rI k hlt
    rw[uh HG] at e'
    injection e' with e' _ e''
    injection e' with e'
    injection e' with e'
    subst e' e''
    obtain⟨q',n',cq',hq',_,hcq⟩:=mrk_at (hr.mI hi[k] (List.getElem_mem hlt))
    rw[uh HQ] at hq'
    injection hq' with e1' e2' e3'
    subst e1' e2' e3'
    rw[uh HQ] at e0
    by_cases hltj:j < n
    ·obtain⟨g,hqg,hc⟩:=hcq j hltj
     have hk1:(k:Int) < (hi.length:Int):=by omega
     have hj1:(j:Int) < (n:Int):=by omega
     generalize hi[k].2=m at e1 hc
     have hmm:(m == m)=true:=beq_iff_eq.2 rfl
     subst hqg
     clear hcq hr
     go_wp2_with fail
     go_quiet (fail)
     go_wp2
     go_roundw
     case rel=>exact⟨j+1,by omega,by go_num,by trivial,drN hb _⟩
     case measure=>simp[intOf];omega
    ·obtain rfl:j=n:=by omega
     go_wp2
     go_roundw
     case rel=>exact⟨k+1,by omega,by go_num,by trivial,hb⟩
     case measure=>simp[intOf];omega
  ·obtain rfl:k=hi.length:=by omega
   obtain⟨p1,k1,hp1,_⟩:=osl hr.rI
   rw[hp1] at c7
   clear hp1 hr
   go_wp2
   go_ret
   exact⟨rfl,hb⟩
open Rd (strs drN Rk RAt rOwn)
open Pk (Pair Half Sm DAt dOwn blk_lt blk_ne own_blk own_lt)
def pTypes:List Nat:=[273,419,391,364,5,209,298,213,355]
theorem pair_ty {w:World} {D E:Nat} {R:Rk} {O:Nat→Prop} (h:Pair w D E R O) {k:Nat} (hk:O k):∃ c t fr,w.heap[k]? = some (.cells c t fr)∧t ∈ pTypes:=by
 obtain⟨d,blk,vf,vs,vc,h1,h2,h3,h4,h5⟩:=h
 rcases(h5 k).1 hk with e | e
 ·rcases e with rfl | e | e | e | ⟨f,hf,e | e⟩
  ·exact⟨_,_,_,h1.blk,by decide⟩
  ·obtain⟨c,hc,_⟩:=own_blk h1.rn e;exact⟨_,_,_,hc,by decide⟩
  ·obtain⟨c,hc,_⟩:=own_blk h1.rs e;exact⟨_,_,_,hc,by decide⟩
  ·obtain⟨c,hc,_⟩:=own_blk h1.rc e;exact⟨_,_,_,hc,by decide⟩
  ·subst e;exact⟨_,_,_,(h1.files _ hf).blk,by decide⟩
  ·obtain⟨c,hc,_⟩:=own_blk (h1.files f hf).row e;exact⟨_,_,_,hc,by decide⟩
 ·rcases e with rfl | e | e | e
  ·exact⟨_,_,_,h3.blk,by decide⟩
  ·obtain⟨c,hc,_⟩:=own_blk h3.rf e;exact⟨_,_,_,hc,by decide⟩
  ·obtain⟨c,hc,_⟩:=own_blk h3.rs e;exact⟨_,_,_,hc,by decide⟩
  ·obtain⟨c,hc,_⟩:=own_blk h3.rc e;exact⟨_,_,_,hc,by decide⟩
theorem not_own {w:World} {D E:Nat} {R:Rk} {O:Nat→Prop} (h:Pair w D E R O) {k:Nat} {c:Array Value} {t:Nat} {fr:Nat × Nat} (hk:w.heap[k]? = some (.cells c t fr)) (ht:t ∉ pTypes):¬ O k:=fun hO=>by
 obtain⟨c',t',fr',h1,h2⟩:=pair_ty h hO
 rw[hk] at h1
 injection h1 with h1
 injection h1 with _ h1
 subst h1
 exact ht h2
theorem WAt.kept {w w':World} {W:Nat} {vd vr:Value} {N:Nat} {vT vI:Value} {ht hi:List (Value × Int)} {ok:Nat→Prop} (h:WAt w W vd vr N vT vI ht hi) (hk:Kept w w' ok) (hok:∀ k c t fr,w.heap[k]? = some (.cells c t fr)→t ∉ pTypes→ok k):WAt w' W vd vr N vT vI ht hi:=by
 have row:∀ {e s n:Nat} {v:Value} {xs:List Value},w.ownsRow 0 e s v n xs→e ∉ pTypes→w'.ownsRow 0 e s v n xs:=fun ho he=>own_kept ho hk (fun g hg=>by obtain⟨c,hc,_⟩:=own_blk ho hg;exact hok g c _ _ hc he)
 exact⟨(hk.block W (blk_lt h.blk) (hok W _ _ _ h.blk (by decide))).trans h.blk,row h.rT (by decide),row h.rI (by decide),fun p hp=>⟨(h.mT p hp).1,(h.mT p hp).2.1,by obtain⟨n,hn,ho⟩:=(h.mT p hp).2.2;exact⟨n,hn,row ho (by decide)⟩⟩,fun p hp=>by obtain⟨n,hn,ho⟩:=h.mI p hp;exact⟨n,hn,row ho (by decide)⟩,h.small⟩
structure Pr where
 D:Nat
 E:Nat
 R:Rk
 O:Nat→Prop
def dPs (Ps:List Pr):List Value:=Ps.map fun p=>.pointer (some ⟨p.D,0,none⟩)
def rPs (Ps:List Pr):List Value:=Ps.map fun p=>.pointer (some ⟨p.E,0,none⟩)
structure From (B W:Nat) (Ps:List Pr) (vd vr vT vI:Value) (ht hi:List (Value × Int)):Prop where
 W:B≤W
 vd:∀ g,vd.ownBlock=some g→B≤g
 vr:∀ g,vr.ownBlock=some g→B≤g
 vT:∀ g,vT.ownBlock=some g→B≤g
 vI:∀ g,vI.ownBlock=some g→B≤g
 ps:∀ p ∈ Ps,∀ k,p.O k→B≤k
 ht:∀ p ∈ ht,∀ g,p.1.ownBlock=some g→B≤g
 hi:∀ p ∈ hi,∀ g,p.1.ownBlock=some g→B≤g
structure Inv (w0 w:World) (W:Nat) (Ps:List Pr) (vd vr:Value) (N:Nat) (vT vI:Value) (ht hi:List (Value × Int)) (n b:Nat):Prop where
 wat:WAt w W vd vr N vT vI ht hi
 rd:w.ownsRow 0 192 1 vd Ps.length (dPs Ps)
 rr:w.ownsRow 0 136 1 vr Ps.length (rPs Ps)
 pr:∀ p ∈ Ps,Pair w p.D p.E p.R p.O∧Sm p.R n b
 ap:∀ i j (hi:i < Ps.length) (hj:j < Ps.length),i≠j→∀ k,(Ps[i]).O k→¬ (Ps[j]).O k
 base:Below w0.heap.size w0 w
 frm:From w0.heap.size W Ps vd vr vT vI ht hi
theorem Inv.below {w0 w w':World} {W:Nat} {Ps:List Pr} {vd vr:Value} {N:Nat} {vT vI:Value} {ht hi:List (Value × Int)} {n b:Nat} (h:Inv w0 w W Ps vd vr N vT vI ht hi n b) (hb:Below w.heap.size w w'):Inv w0 w' W Ps vd vr N vT vI ht hi n b :=
 ⟨h.wat.below hb,obl h.rd hb,obl h.rr hb,fun p hp=>⟨(h.pr p hp).1.kept (Kept.below hb (fun _=>True)) (fun _ _=>trivial),(h.pr p hp).2⟩,h.ap,h.base.trans (hb.mono h.base.size),h.frm⟩
theorem Inv.mono {w0 w:World} {W:Nat} {Ps:List Pr} {vd vr:Value} {N:Nat} {vT vI:Value} {ht hi:List (Value × Int)} {n b n' b':Nat} (h:Inv w0 w W Ps vd vr N vT vI ht hi n b) (hn:n≤n') (hb:b≤b'):Inv w0 w W Ps vd vr N vT vI ht hi n' b' :=
 ⟨h.wat,h.rd,h.rr,fun p hp=>⟨(h.pr p hp).1,(h.pr p hp).2.mono hn hb⟩,h.ap,h.base,h.frm⟩
theorem Inv.step {w0 w w':World} {W:Nat} {Ps:List Pr} {vd vr:Value} {N:Nat} {vT vI:Value} {ht hi:List (Value × Int)} {n b n' b':Nat} (h:Inv w0 w W Ps vd vr N vT vI ht hi n b) (i:Nat) (hi':i < Ps.length) {R':Rk} (hh:Half w w' (Ps[i]).D (Ps[i]).E R' R' (Ps[i]).O) (hs:Sm R' n' b') (hn:n≤n') (hb:b≤b') :
  ∃ O',Inv w0 w' W (Ps.set i ⟨(Ps[i]).D,(Ps[i]).E,R',O'⟩) vd vr N vT vI ht hi n' b':=by
 obtain⟨O',hp,hk,ho⟩:=hh.pair
 have hpi:=(h.pr Ps[i] (List.getElem_mem _)).1
 have hbase:=h.base.size
 have hok:∀ k c t fr,w.heap[k]? = some (.cells c t fr)→t ∉ pTypes→¬ (Ps[i]).O k:=fun k c t fr hc ht=>not_own hpi hc ht
 have row:∀ {e s n:Nat} {v:Value} {xs:List Value},w.ownsRow 0 e s v n xs→e ∉ pTypes→w'.ownsRow 0 e s v n xs:=fun ho he=>own_kept ho hk (fun g hg=>by obtain⟨c,hc,_⟩:=own_blk ho hg;exact hok g c _ _ hc he)
 have eD:dPs (Ps.set i ⟨(Ps[i]).D,(Ps[i]).E,R',O'⟩)=dPs Ps:=by
  unfold dPs
  rw[List.map_set]
  refine List.ext_getElem (by simp) fun j h1 h2=>?_
  rw[List.getElem_set]
  split
  ·rename_i e;subst e;simp
  ·rfl
 have eE:rPs (Ps.set i ⟨(Ps[i]).D,(Ps[i]).E,R',O'⟩)=rPs Ps:=by
  unfold rPs
  rw[List.map_set]
  refine List.ext_getElem (by simp) fun j h1 h2=>?_
  rw[List.getElem_set]
  split
  ·rename_i e;subst e;simp
  ·rfl
 refine⟨O',h.wat.kept hk hok,?_,?_,fun p hpm=>?_,fun x y hx hy hxy k hkx hky=>?_,?_,?_⟩
 ·rw[eD,List.length_set];exact row h.rd (by decide)
 ·rw[eE,List.length_set];exact row h.rr (by decide)
 ·obtain⟨j,hj,rfl⟩:=List.mem_iff_getElem.1 hpm
  rw[List.length_set] at hj
  rw[List.getElem_set]
  split
  ·exact⟨hp,hs⟩
  ·rename_i hne
   have hq:=h.pr Ps[j] (List.getElem_mem _)
   exact⟨hq.1.kept hk (fun k hkO hki=>h.ap i j hi' hj (by omega) k hki hkO),hq.2.mono hn hb⟩
 ·rw[List.length_set] at hx hy
  rw[List.getElem_set] at hkx hky
  by_cases e1:i=x
  ·rw[if_pos e1] at hkx
   rw[if_neg (by omega)] at hky
   rcases ho k hkx with q | q
   ·exact h.ap i y hi' hy (by omega) k q hky
   ·have:=(h.pr Ps[y] (List.getElem_mem _)).1.lt hky;omega
  ·rw[if_neg e1] at hkx
   by_cases e2:i=y
   ·rw[if_pos e2] at hky
    rcases ho k hky with q | q
    ·exact h.ap x i hx hi' (by omega) k hkx q
    ·have:=(h.pr Ps[x] (List.getElem_mem _)).1.lt hkx;omega
   ·rw[if_neg e2] at hky
    exact h.ap x y hx hy hxy k hkx hky
 ·refine⟨hk.os.trans h.base.os,hk.tape.trans h.base.tape,hk.output.trans h.base.output,Nat.le_trans hbase hk.size,fun k hk1=>?_⟩
  rw[hk.block k (by omega) (fun hO=>by have:=h.frm.ps Ps[i] (List.getElem_mem _) k hO;omega),h.base.block k hk1]
 ·refine⟨h.frm.W,h.frm.vd,h.frm.vr,h.frm.vT,h.frm.vI,fun p hpm k hkO=>?_,h.frm.ht,h.frm.hi⟩
  obtain⟨j,hj,rfl⟩:=List.mem_iff_getElem.1 hpm
  rw[List.length_set] at hj
  rw[List.getElem_set] at hkO
  split at hkO
  ·rcases ho k hkO with q | q
   ·exact h.frm.ps Ps[i] (List.getElem_mem _) k q
   ·omega
  ·exact h.frm.ps Ps[j] (List.getElem_mem _) k hkO
end Go.Proofs.YteflnddphpjahaaGreatDoor.Dl
