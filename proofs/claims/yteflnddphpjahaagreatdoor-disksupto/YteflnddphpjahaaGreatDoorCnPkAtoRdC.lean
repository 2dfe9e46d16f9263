import Derived.Test.YteflnddphpjahaaGreatDoorCnDtEtoDtG
import Derived.Test.YteflnddphpjahaaGreatDoorCnRdAtoRdB
import Derived.Test.YteflnddphpjahaaGreatDoorCnShelf
import Derived.Deep.DeepMust
set_option linter.unusedVariables false
set_option linter.unusedSimpArgs false
set_option maxRecDepth 100000
set_option maxHeartbeats 16000000
namespace Go.Proofs.YteflnddphpjahaaGreatDoor.Pk
open Go.RowKit
open Sd (Tb)
open Dk (Kept own_kept TabIn TabNew tbCells fptr optPtr)
structure Fl where
 bytes:ByteArray
 safe:Nat
structure Ch where
 gone:ByteArray
 name:ByteArray
 file:Option Nat
structure Dv where
 q:Int
 names:Tb
 safe:Tb
 chs:List Ch
 fs:List Nat
 F:Nat→Fl
 vb:Nat→Value
 vn:Value
 vs:Value
 vc:Value
 left:Int
 armed:Bool
 down:Bool
def byteCells (b:ByteArray):List Value:=b.data.toList.map fun x=>.int .u8 x.toNat
theorem byteCells_len (b:ByteArray):(byteCells b).length=b.size:=by unfold byteCells;rw[List.length_map,Array.length_toList];rfl
def chCells (L:List Ch):List Value:=L.flatMap fun c=>[.string c.gone,.string c.name,optPtr c.file]
def Dv.cells (d:Dv):Array Value := #[.int .i64 d.q,d.vn,d.vs,d.vc,.int .i64 d.left,.bool d.armed,.bool d.down]
structure FAt (w:World) (f:Nat) (X:Fl) (v:Value):Prop where
 blk:w.heap[f]? = some (.cells #[v,.int .i64 X.safe] 364 (0,0))
 row:w.ownsRow 0 5 1 v X.bytes.size (byteCells X.bytes)
structure DAt (w:World) (D:Nat) (d:Dv):Prop where
 blk:w.heap[D]? = some (.cells d.cells 273 (0,0))
 rn:w.ownsRow 0 419 2 d.vn d.names.length (tbCells d.names)
 rs:w.ownsRow 0 419 2 d.vs d.safe.length (tbCells d.safe)
 rc:w.ownsRow 0 391 3 d.vc d.chs.length (chCells d.chs)
 sn:Sd.tsorted d.names
 ss:Sd.tsorted d.safe
 apart:∀ g,d.vn.ownBlock=some g→d.vs.ownBlock≠some g
 files:∀ f,f ∈ d.fs→FAt w f (d.F f) (d.vb f)
 fap:∀ f f',f ∈ d.fs→f' ∈ d.fs→f≠f'→∀ g,(d.vb f).ownBlock=some g→(d.vb f').ownBlock≠some g
 inN:∀ p,p ∈ d.names→p.2 ∈ d.fs
 inS:∀ p,p ∈ d.safe→p.2 ∈ d.fs
 inC:∀ c,c ∈ d.chs→∀ f,c.file=some f→f ∈ d.fs
theorem blk_lt {w:World} {b:Nat} {o:Obj} (h:w.heap[b]? = some o):b < w.heap.size:=(Array.getElem?_eq_some_iff.1 h).1
theorem blk_ne {w:World} {a b:Nat} {x y:Array Value} {t u:TypeId} {p q:Nat × Nat} (h:w.heap[a]? = some (.cells x t p)) (k:w.heap[b]? = some (.cells y u q)) (ht:t≠u):a≠b:=fun e=>by
 subst e;rw[h] at k;injection k with k;injection k with _ k;exact ht k
theorem own_blk {w:World} {B e size n g:Nat} {v:Value} {xs:List Value} (h:w.ownsRow B e size v n xs) (hg:v.ownBlock=some g):∃ cur,w.heap[g]? = some (.cells cur e (0,0))∧B≤g:=by
 rcases h.2 with ⟨rfl,_⟩ | ⟨g',cap,cur,rfl,hB,hgg,_⟩
 ·simp[Value.ownBlock] at hg
 ·have:g'=g:=by simpa [Value.ownBlock] using hg
  subst this
  exact⟨cur,hgg,hB⟩
theorem own_lt {w:World} {B e size n g:Nat} {v:Value} {xs:List Value} (h:w.ownsRow B e size v n xs) (hg:v.ownBlock=some g):g < w.heap.size:=by
 obtain⟨cur,hc,_⟩:=own_blk h hg;exact blk_lt hc
theorem own_le {w:World} {B B' e size n:Nat} {v:Value} {xs:List Value} (h:w.ownsRow B e size v n xs) (hB:B'≤B):w.ownsRow B' e size v n xs:=by
 obtain⟨h1,h2⟩:=h
 refine⟨h1,?_⟩
 rcases h2 with h2 | ⟨g,cap,cur,hv,hBg,hgg,r⟩
 ·exact .inl h2
 ·exact .inr ⟨g,cap,cur,hv,Nat.le_trans hB hBg,hgg,r⟩
theorem own_sl {w:World} {B e size n:Nat} {v:Value} {xs:List Value} (h:w.ownsRow B e size v n xs):∃ p cap,v = .slice p n cap:=by
 rcases h.2 with ⟨rfl,h0⟩ | ⟨g,cap,cur,rfl,_⟩
 ·exact⟨none,0,by rw[h0]⟩
 ·exact⟨_,cap,rfl⟩
theorem FAt.below {w w':World} {f:Nat} {X:Fl} {v:Value} (h:FAt w f X v) (hb:Below w.heap.size w w'):FAt w' f X v:=⟨(hb.block f (blk_lt h.blk)).trans h.blk,obl h.row hb⟩
theorem FAt.kept {w w':World} {f:Nat} {X:Fl} {v:Value} {ok:Nat→Prop} (h:FAt w f X v) (hk:Kept w w' ok) (h1:ok f) (h2:∀ g,v.ownBlock=some g→ok g):FAt w' f X v:=⟨(hk.block f (blk_lt h.blk) h1).trans h.blk,own_kept h.row hk h2⟩
theorem FAt.own {w:World} {f:Nat} {X:Fl} {v:Value} (h:FAt w f X v) {g:Nat} (hg:v.ownBlock=some g):∃ cur,w.heap[g]? = some (.cells cur 5 (0,0)):=by
 obtain⟨cur,h1,_⟩:=own_blk h.row hg;exact⟨cur,h1⟩
theorem DAt.below {w w':World} {D:Nat} {d:Dv} (h:DAt w D d) (hb:Below w.heap.size w w'):DAt w' D d :=
 ⟨(hb.block D (blk_lt h.blk)).trans h.blk,obl h.rn hb,obl h.rs hb,obl h.rc hb,h.sn,h.ss,h.apart,fun f hf=>(h.files f hf).below hb,h.fap,h.inN,h.inS,h.inC⟩
def dOwn (D:Nat) (d:Dv) (k:Nat):Prop:=k=D∨d.vn.ownBlock=some k∨d.vs.ownBlock=some k∨d.vc.ownBlock=some k∨∃ f,f ∈ d.fs∧(k=f∨(d.vb f).ownBlock=some k)
theorem dOwn_lt {w:World} {D:Nat} {d:Dv} (h:DAt w D d) {k:Nat} (hk:dOwn D d k):k < w.heap.size:=by
 rcases hk with rfl | e | e | e | ⟨f,hf,e | e⟩
 ·exact blk_lt h.blk
 ·exact own_lt h.rn e
 ·exact own_lt h.rs e
 ·exact own_lt h.rc e
 ·subst e;exact blk_lt (h.files _ hf).blk
 ·exact own_lt (h.files f hf).row e
structure DTo (w w':World) (D:Nat) (d d':Dv):Prop where
 at':DAt w' D d'
 kept:Kept w w' (fun k=>¬ dOwn D d k)
 own:∀ k,dOwn D d' k→dOwn D d k∨w.heap.size≤k
theorem DTo.below {w w':World} {D:Nat} {d:Dv} (h:DAt w D d) (hb:Below w.heap.size w w'):DTo w w' D d d:=⟨h.below hb,Kept.below hb _,fun k hk=>Or.inl hk⟩
theorem DTo.trans {w w1 w2:World} {D:Nat} {d d1 d2:Dv} (h:DTo w w1 D d d1) (k:DTo w1 w2 D d1 d2):DTo w w2 D d d2:=by
 have hs:=h.kept.size
 refine⟨k.at',⟨k.kept.os.trans h.kept.os,k.kept.tape.trans h.kept.tape,k.kept.output.trans h.kept.output,Nat.le_trans hs k.kept.size,fun i hi hn=>?_⟩,fun i hi=>?_⟩
 ·rw[k.kept.block i (by omega) (fun h1=>by rcases h.own i h1 with h2 | h2;exact hn h2;omega),h.kept.block i hi hn]
 ·rcases k.own i hi with h1 | h1
  ·exact h.own i h1
  ·exact Or.inr (by omega)
theorem DAt.rowD {w:World} {D:Nat} {d:Dv} (h:DAt w D d) {B e s n:Nat} {v:Value} {xs:List Value} (ho:w.ownsRow B e s v n xs) (he:e≠273):v.ownBlock≠some D:=fun e2=>by
 obtain⟨x,hx,_⟩:=own_blk ho e2
 exact blk_ne hx h.blk he rfl
theorem DAt.set {w W:World} {D:Nat} {d d':Dv} (h:DAt w D d) (hk:Kept w W (fun k=>k≠D)) (hb:W.heap[D]? = some (.cells d'.cells 273 (0,0))) (e1:d'.names=d.names) (e2:d'.safe=d.safe) (e3:d'.chs=d.chs) (e4:d'.fs=d.fs) (e5:d'.F=d.F) (e6:d'.vb=d.vb) (e7:d'.vn=d.vn) (e8:d'.vs=d.vs) (e9:d'.vc=d.vc):DTo w W D d d':=by
 obtain⟨q,a,b,c,f,F,vb,vn,vs,vc,l,ar,dn⟩:=d'
 simp only at e1 e2 e3 e4 e5 e6 e7 e8 e9
 subst e1 e2 e3 e4 e5 e6 e7 e8 e9
 have row:∀ {e s n:Nat} {v:Value} {xs:List Value},w.ownsRow 0 e s v n xs→e≠273→W.ownsRow 0 e s v n xs:=fun ho he=>own_kept ho hk (fun g hg e2=>by subst e2;exact h.rowD ho he hg)
 refine⟨⟨hb,row h.rn (by decide),row h.rs (by decide),row h.rc (by decide),h.sn,h.ss,h.apart,fun f hf=>⟨?_,row (h.files f hf).row (by decide)⟩,h.fap,h.inN,h.inS,h.inC⟩,hk.mono (fun k _ hn e=>hn (Or.inl e)),fun k hk=>Or.inl hk⟩
 rw[hk.block f (blk_lt (h.files f hf).blk) (blk_ne (h.files f hf).blk h.blk (by decide))]
 exact(h.files f hf).blk
def d0 (q:Int):Dv:=⟨q,[],[],[],[],fun _=>⟨⟨#[]⟩,0⟩,fun _=>.slice none 0 0,.slice none 0 0,.slice none 0 0,.slice none 0 0,0,false,false⟩
theorem dnew_any (q:Int) (w:World):Calls Tryz.prog 129 #[.int .i64 q] w fun e w'=>e = .returned (.agg (d0 q).cells)∧Below w.heap.size w w'∧w'.heap.size=w.heap.size+1:=by
 go_enter Tryz.func129,Tryz.ntmps129
 go_wp2
 refine bodyPost_ret (v := .agg (d0 q).cells) (by simp[results,Tryz.results129,go_sem,d0,Dv.cells]) rfl ⟨rfl,?_,by simp⟩
 exact(Below.refl _ w).alloc nlr _
theorem newDisk_any (q:Int) (w:World):Calls Tryz.prog 76 #[.int .i64 q] w fun e w'=>e = .returned (.pointer (some ⟨w.heap.size+1,0,none⟩))∧Below w.heap.size w w'∧DAt w' (w.heap.size+1) (d0 q):=by
 go_enter Tryz.func76,Tryz.ntmps76
 go_wp2_with fail
 refine(dnew_any q w).mono ?_
 rintro e w1 ⟨rfl,hb,hz⟩
 unfold Dv.cells d0
 go_wp2
 go_ret
 have hblk:=heap_alloc_new w1 (.cells (d0 q).cells 273)
 rw[hz] at hblk
 exact⟨rfl,hb.alloc (by omega) _,⟨hblk,World.ownsRow_nil _ _ _ _,World.ownsRow_nil _ _ _ _,World.ownsRow_nil _ _ _ _,List.Pairwise.nil,List.Pairwise.nil,fun g h=>by simp[d0,Value.ownBlock] at h,fun f h=>(by cases h),fun f f' h=>(by cases h),fun p h=>(by cases h),fun p h=>(by cases h),fun p h=>(by cases h)⟩⟩
def Dv.up (d:Dv):Bool := !(d.down || (d.armed && decide (d.left=0)))
def Dv.cnt (d:Dv):Dv:=if d.armed=true then { d with down:=d.down || decide (d.left=0),left:=wrap64 (d.left - 1) } else d
theorem DAt.cell {w:World} {D:Nat} {d:Dv} (h:DAt w D d):w.cell? ⟨D,0,none⟩=some (.int .i64 d.q)∧w.cell? ⟨D,1,none⟩=some d.vn∧w.cell? ⟨D,2,none⟩=some d.vs∧w.cell? ⟨D,3,none⟩=some d.vc∧w.cell? ⟨D,4,none⟩=some (.int .i64 d.left)∧w.cell? ⟨D,5,none⟩=some (.bool d.armed)∧w.cell? ⟨D,6,none⟩=some (.bool d.down):=by
 refine⟨?_,?_,?_,?_,?_,?_,?_⟩ <;> (rw[cell_of_row w D _ _ _ _ h.blk];rfl)
theorem DAt.fz {w:World} {D:Nat} {d:Dv} (h:DAt w D d) (j:Nat):w.frozen? ⟨D,j,none⟩=false:=by simp[World.frozen?,h.blk]
theorem kept1 (w:World) (D j:Nat) (u:Value):Kept w (w.setCell ⟨D,j,none⟩ u) (fun k=>k≠D):=(Kept.refl w _).setCell (fun hk=>hk rfl) _
theorem operates_any (D:Nat) (d:Dv) (w:World) (h:DAt w D d) :
  Calls Tryz.prog 284 #[.pointer (some ⟨D,0,none⟩)] w fun e w'=>e = .returned (.bool d.up)∧DTo w w' D d d.cnt∧w'.heap.size=w.heap.size:=by
 obtain⟨_,_,_,_,c4,c5,c6⟩:=h.cell
 have f4:=h.fz 4
 have f6:=h.fz 6
 have HD:=hde h
 have hb:=h.blk
 have HB:=hde hb
 clear h hb
 obtain⟨q,nm,sf,ch,fs,F,vb,vn,vs,vc,l,ar,dn⟩:=d
 simp only at c4 c5 c6
 cases ar with
 | false =>
  cases dn with
  | true =>
   go_enter Tryz.func284,Tryz.ntmps284
   go_wp2
   go_ret
   exact⟨rfl,DTo.below (uh HD) (Below.refl _ _),rfl⟩
  | false =>
   go_enter Tryz.func284,Tryz.ntmps284
   go_wp2
   go_ret
   exact⟨rfl,DTo.below (uh HD) (Below.refl _ _),rfl⟩
 | true =>
  cases dn with
  | true =>
   go_enter Tryz.func284,Tryz.ntmps284
   go_wp2
   go_ret
   refine⟨rfl,(uh HD).set ?_ ?_ rfl rfl rfl rfl rfl rfl rfl rfl rfl,by simp⟩
   ·exact(kept1 w D 6 _).setCell (fun hk=>hk rfl) _
   ·have h1:=heap_setCell_same w D 6 _ _ (.bool true) (uh HB)
    have h2:=heap_setCell_same _ D 4 _ _ (.int .i64 (wrap64 (l - 1))) h1
    exact h2
  | false =>
   by_cases hl:l=0
   ·subst hl
    go_enter Tryz.func284,Tryz.ntmps284
    go_wp2
    go_ret
    refine⟨rfl,(uh HD).set ?_ ?_ rfl rfl rfl rfl rfl rfl rfl rfl rfl,by simp⟩
    ·exact(kept1 w D 6 _).setCell (fun hk=>hk rfl) _
    ·have h1:=heap_setCell_same w D 6 _ _ (.bool true) (uh HB)
     have h2:=heap_setCell_same _ D 4 _ _ (.int .i64 (-1)) h1
     have ew:wrap64 (0 - 1) = -1:=by unfold wrap64;decide
     unfold Dv.cnt Dv.cells at *
     simp only[if_true,ew]
     exact h2
   ·have hl0:(l == 0)=false:=beq_eq_false_iff_ne.2 hl
    have HU:Hid (Dv.up ⟨q,nm,sf,ch,fs,F,vb,vn,vs,vc,l,true,false⟩=true):=by show _=_;unfold Dv.up;simp[hl]
    have HC:Hid (Dv.cnt ⟨q,nm,sf,ch,fs,F,vb,vn,vs,vc,l,true,false⟩=⟨q,nm,sf,ch,fs,F,vb,vn,vs,vc,wrap64 (l - 1),true,false⟩):=by show _=_;unfold Dv.cnt;simp[hl]
    clear hl
    go_enter Tryz.func284,Tryz.ntmps284
    go_wp2
    go_ret
    rw[uh HU,uh HC]
    refine⟨rfl,(uh HD).set ?_ ?_ rfl rfl rfl rfl rfl rfl rfl rfl rfl,by simp⟩
    ·exact(kept1 w D 6 _).setCell (fun hk=>hk rfl) _
    ·have h1:=heap_setCell_same w D 6 _ _ (.bool false) (uh HB)
     have h2:=heap_setCell_same _ D 4 _ _ (.int .i64 (wrap64 (l - 1))) h1
     exact h2
end Go.Proofs.YteflnddphpjahaaGreatDoor.Pk
namespace Go.Proofs.YteflnddphpjahaaGreatDoor.Rd
open Go.RowKit
open Sd (Tb)
def rkCells (R:Rk) (vf vs vc:Value):Array Value := #[vf,vs,vc,.int .i64 R.limit,.int .i64 R.left,.bool R.down]
structure RAt (w:World) (D:Nat) (R:Rk) (vf vs vc:Value):Prop where
 blk:w.heap[D]? = some (.cells (rkCells R vf vs vc) 209 (0,0))
 rf:w.ownsRow 0 298 2 vf R.files.length (flCells R.files)
 rs:w.ownsRow 0 213 2 vs R.safe.length (enCells R.safe)
 rc:w.ownsRow 0 355 3 vc R.chs.length (chCells R.chs)
 ok:R.Ok
theorem blk_lt {w:World} {b:Nat} {o:Obj} (h:w.heap[b]? = some o):b < w.heap.size:=(Array.getElem?_eq_some_iff.1 h).1
theorem RAt.below {w w':World} {D:Nat} {R:Rk} {vf vs vc:Value} (h:RAt w D R vf vs vc) (hb:Below w.heap.size w w'):RAt w' D R vf vs vc :=
 ⟨(hb.block D (blk_lt h.blk)).trans h.blk,obl h.rf hb,obl h.rs hb,obl h.rc hb,h.ok⟩
theorem own_le {w:World} {B B' e size n:Nat} {v:Value} {xs:List Value} (h:w.ownsRow B e size v n xs) (hB:B'≤B):w.ownsRow B' e size v n xs:=by
 obtain⟨h1,h2⟩:=h
 refine⟨h1,?_⟩
 rcases h2 with h2 | ⟨g,cap,cur,hv,hBg,hgg,r⟩
 ·exact .inl h2
 ·exact .inr ⟨g,cap,cur,hv,Nat.le_trans hB hBg,hgg,r⟩
theorem RAt.cells {w:World} {D:Nat} {R:Rk} {vf vs vc:Value} (h:RAt w D R vf vs vc):w.cell? ⟨D,0,none⟩=some vf∧w.cell? ⟨D,1,none⟩=some vs∧w.cell? ⟨D,2,none⟩=some vc∧w.cell? ⟨D,3,none⟩=some (.int .i64 R.limit)∧w.cell? ⟨D,4,none⟩=some (.int .i64 R.left)∧w.cell? ⟨D,5,none⟩=some (.bool R.down):=by
 refine⟨?_,?_,?_,?_,?_,?_⟩ <;> (rw[cell_of_row w D _ _ _ _ h.blk];rfl)
theorem chs_of_own {w:World} {B:Nat} {v:Value} {L:List Ch} (h:w.ownsRow B 355 3 v L.length (chCells L)):∃ p cap,v = .slice p L.length cap∧∀ k (h:k < L.length),∃ g,p=some ⟨g,0,none⟩∧g < w.heap.size∧w.cell? ⟨g,k * 3,none⟩=some (.string L[k].goes)∧w.cell? ⟨g,k * 3+1,none⟩=some (.string L[k].comes)∧w.cell? ⟨g,k * 3+2,none⟩=some (.int .i64 (L[k].file:Int)):=by
 obtain⟨p,cap,hv,hc⟩:=osl h
 refine⟨p,cap,hv,fun k hk=>?_⟩
 obtain⟨e0,e1,e2⟩:=ch_get L k hk
 obtain⟨g,hp,_,hg,c0⟩:=hc (k * 3) (by omega)
 obtain⟨g1,hp1,_,_,c1⟩:=hc (k * 3+1) (by omega)
 obtain⟨g2,hp2,_,_,c2⟩:=hc (k * 3+2) (by omega)
 have q1:g1=g:=by rw[hp] at hp1;injection hp1 with q;injection q with q;exact q.symm
 have q2:g2=g:=by rw[hp] at hp2;injection hp2 with q;injection q with q;exact q.symm
 subst q1 q2
 exact⟨_,hp,hg,c0.trans e0,c1.trans e1,c2.trans e2⟩
theorem ap_len (L:Tb) (c:Ch):(ap L c).length≤L.length+1:=by
 have h1:=wo_len L c.goes
 have h2:=wo_len (wo L c.goes) c.comes
 unfold ap
 split
 ·omega
 ·simp;omega
theorem fold_len:∀ (C:List Ch) (L:Tb),(C.foldl ap L).length≤L.length+C.length
 | [],L=>Nat.le_refl _
 | c :: C,L=>by
  have h1:=fold_len C (ap L c)
  have h2:=ap_len L c
  simp only[List.foldl_cons,List.length_cons]
  omega
theorem dir_len (R:Rk) (n:Nat):(R.dir n).length≤R.safe.length+R.chs.length:=by
 have h1:=fold_len (R.chs.take n) (wo R.safe e0)
 have h2:=wo_len R.safe e0
 have h3:(R.chs.take n).length≤R.chs.length:=by rw[List.length_take];omega
 unfold Rk.dir
 omega
theorem dir_succ (R:Rk) {k:Nat} (h:k < R.chs.length):R.dir (k+1)=ap (R.dir k) R.chs[k]:=by
 unfold Rk.dir
 rw[List.take_add_one,List.getElem?_eq_getElem h,List.foldl_append]
 rfl
theorem dir_all (R:Rk) {n:Nat} (h:R.chs.length≤n):R.dir n=R.now:=by
 unfold Rk.now Rk.dir
 rw[List.take_of_length_le h,List.take_length]
theorem e0_is {a:ByteArray} (h:a=e0):a.toList.isEmpty=true:=by subst h;rw[ByteArray.toList_eq];rfl
theorem EntsIn.up {w w':World} {p:Option Addr} {L:Tb} (h:EntsIn w w.heap.size p L) (hb:Below w.heap.size w w'):EntsIn w' w'.heap.size p L:=fun k hk=>by
 obtain⟨g,a,hg,b⟩:=(h.below hb) k hk
 exact⟨g,a,Nat.lt_of_lt_of_le hg hb.size,b⟩
theorem e0_ne {a:ByteArray} (h:¬ a=e0):a.toList.isEmpty=false:=by
 rw[ByteArray.toList_eq]
 cases hq:a.data.toList with
 | nil=>exact absurd (ByteArray.ext (Array.toList_inj.1 (hq.trans rfl))) h
 | cons _ _=>rfl
theorem dir_any (D:Nat) (R:Rk) (vf vs vc:Value) (n:Int) (w:World) (h:RAt w D R vf vs vc) (h1:R.safe.length≤100000000) (h2:R.chs.length≤100000000) :
  Calls Tryz.prog 150 #[.pointer (some ⟨D,0,none⟩),.int .i64 n] w (EnPost w (R.dir n.toNat)):=by
 obtain⟨i0,hi,hz0,hz1,hz2⟩:=info_parts Tryz.info_entry
 have HR:=hde h
 obtain⟨_,cs,cc,_⟩:=h.cells
 obtain⟨ps,cps,rfl,hes⟩:=ents_of_own h.rs
 obtain⟨pc,cpc,rfl,hcs⟩:=chs_of_own h.rc
 have hlen:=dir_len R
 clear h hcs cc
 go_enter Tryz.func150,Tryz.ntmps150
 go_wp2_with fail
 refine(without_any ps cps R.safe e0 w hes (by omega)).mono ?_
 rintro e w1 ⟨v1,rfl,ho1,hb1⟩
 clear hes cs
 go_wp2_with fail
 go_loopw [5,6] (fun v i wr=>∃ k:Nat,k≤n.toNat∧k≤R.chs.length∧i = .int .i64 k∧wr.ownsRow w.heap.size 213 2 v (R.dir k).length (enCells (R.dir k))∧Below w.heap.size w wr) (fun _ i _=>R.chs.length - (intOf i).toNat)
 case atStart=>exact⟨0,Nat.zero_le _,Nat.zero_le _,rfl,ho1,hb1⟩
 case round =>
  obtain⟨k,hk1,hk2,rfl,ho,hb⟩:=hrel
  have hr:=(uh HR).below hb
  have hln:=hlen k
  have hB:=hb.size
  obtain⟨_,_,cc,_⟩:=hr.cells
  by_cases hlt:k < R.chs.length∧(k:Int) < n
  ·obtain⟨hlt,hltn⟩:=hlt
   obtain⟨_,_,hve,hcs⟩:=chs_of_own hr.rc
   injection hve with q1 q2 q3
   subst q1 q3
   obtain⟨g,hp,hg,c0,c1,c2⟩:=hcs k hlt
   subst hp
   have HS:=hde (dir_succ R hlt)
   obtain⟨c,hc⟩:∃ c,R.chs[k]=c:=⟨_,rfl⟩
   rw[hc] at c0 c1 c2 HS
   clear hc hcs hr
   obtain⟨pl,cpl,rfl,hel⟩:=ents_of_own ho
   clear ho
   obtain⟨L,hL⟩:∃ L,R.dir k=L:=⟨_,rfl⟩
   rw[hL] at hel hln HS
   rw[hL]
   clear hL
   go_wp2_with fail
   refine(without_any pl cpl L c.goes _ (hel.up ((Below.refl _ _).alloc nlr _)) (by omega)).mono ?_
   rintro e w2 ⟨v2,rfl,ho2,hb2⟩
   have hW2:w2.heap[wr.heap.size]? = some (.cells #[.string c.goes,.string c.comes,.int .i64 (c.file:Int)] 355 (0,0)):=(hb2.block wr.heap.size (by simp)).trans (heap_alloc_new wr _)
   have hbw2:Below w.heap.size w w2:=(hb.alloc hB _).trans (hb2.mono (by simp;omega))
   have hs2:=hb2.size
   have m1:w2.cell? ⟨wr.heap.size,1,none⟩=some (.string c.comes):=by rw[cell_of_row w2 _ 1 _ _ _ hW2];rfl
   obtain⟨pl2,cpl2,rfl,hel2⟩:=ents_of_own ho2
   have hl2:=wo_len L c.goes
   clear ho2 hb2 hel
   go_wp2_with fail
   refine(without_any pl2 cpl2 (wo L c.goes) c.comes _ hel2 (by omega)).mono ?_
   rintro e w3 ⟨v3,rfl,ho3,hb3⟩
   have hW3:w3.heap[wr.heap.size]? = some (.cells #[.string c.goes,.string c.comes,.int .i64 (c.file:Int)] 355 (0,0)):=(hb3.block wr.heap.size (blk_lt hW2)).trans hW2
   have hbw3:Below w.heap.size w w3:=hbw2.trans (hb3.mono hbw2.size)
   have n1:w3.cell? ⟨wr.heap.size,1,none⟩=some (.string c.comes):=by rw[cell_of_row w3 _ 1 _ _ _ hW3];rfl
   have n2:w3.cell? ⟨wr.heap.size,2,none⟩=some (.int .i64 (c.file:Int)):=by rw[cell_of_row w3 _ 2 _ _ _ hW3];rfl
   have hl3:=wo_len (wo L c.goes) c.comes
   have ho3':=own_le ho3 hbw2.size
   have hB3:=hbw3.size
   clear hb3 hel2 hW2 m1 ho3
   by_cases hc0:c.comes=e0
   ·have g1:=e0_is hc0
    have HC0:=hde hc0
    clear hc0
    go_wp2
    go_roundw
    case rel=>exact⟨k+1,by omega,by omega,by go_num,by rw[uh HS];unfold ap;rw[if_pos (uh HC0)];exact ho3',hbw3⟩
    case measure=>simp[intOf];omega
   ·have g1:=e0_ne hc0
    go_wp2_with (first
     | (at_builtin;go_must (refine wpList_append_own _ rfl (.tmp 45) (.tmp 51) 206 rfl w.heap.size 213 i0 _ 2 24 Tryz.underlying206 hi hz0 hz1 hz2 rfl (by decide) _ _ _ rfl (ho3'.alloc _) ⟨w3.heap.size,0,none⟩ 1 1 [.string c.comes,.int .i64 (c.file:Int)] rfl rfl ?c1 ?c2 ?c3 ?c4 ?c5 ?_))
     | go_in)
    case c1 =>
     intro j u hj
     match j,hj with
     | 0,hj=>simp at hj;subst hj;simp[Addr.add]
     | 1,hj=>simp at hj;subst hj;simp[Addr.add]
     | j+2,hj=>simp at hj
    case c2=>intro u hu;simp at hu;rcases hu with rfl | rfl <;> rfl
    case c3=>unfold maxLen;omega
    case c4=>omega
    case c5=>simp;omega
    intro v4 w4 ho4 hg4 _
    have hbw4:=rel_app (ys:=[]) (v':=v4) (by simp;omega) (ho3'.alloc _) (hbw3.alloc hB3 _) hg4
    clear hg4 ho3'
    go_wp2
    go_roundw
    case rel=>exact⟨k+1,by omega,by omega,by go_num,by rw[uh HS];unfold ap;rw[if_neg hc0,en_snoc,List.length_append];exact ho4,hbw4⟩
    case measure=>simp[intOf];omega
  ·have hdone:R.dir n.toNat=R.dir k:=by
    by_cases hk:k < R.chs.length
    ·have:k=n.toNat:=by omega
     rw[this]
    ·rw[dir_all R (by omega),dir_all R (by omega)]
   have hfin:(decide ((k:Int) < n) && decide ((k:Int) < (R.chs.length:Int)))=false:=by
    rw[Bool.and_eq_false_iff,decide_eq_false_iff_not,decide_eq_false_iff_not];omega
   rcases Classical.em ((k:Int) < n) with q | q
   ·have q2:¬ (k:Int) < (R.chs.length:Int):=by omega
    go_wp2
    go_ret
    exact⟨_,rfl,ho,hb⟩
   ·go_wp2
    go_ret
    exact⟨_,rfl,ho,hb⟩
end Go.Proofs.YteflnddphpjahaaGreatDoor.Rd
