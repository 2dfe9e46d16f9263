import Derived.Test.YteflnddphpjahaaGreatDoorCmCqLtoAppK
import Derived.Test.YteflnddphpjahaaGreatDoorCmRefBtoGMem
import Derived.Laws.MakeOwn
import Derived.Deep.RegionLaw
import Derived.Deep.DeepMust
import Derived.Test.YteflnddphpjahaaGreatDoorCmCqEtoCqK
import Derived.Test.YteflnddphpjahaaGreatDoorCmPlAtoRefA
import Derived.Test.YteflnddphpjahaaGreatDoorCmSameAtoLineD
set_option linter.unusedVariables false
set_option linter.unusedSimpArgs false
set_option maxRecDepth 100000
set_option maxHeartbeats 16000000
namespace Go.Proofs.YteflnddphpjahaaGreatDoor
open Go.RowKit
theorem Tryz.info_order:(Tryz.prog.info? 336).map (fun i=>(i.zero,i.size,i.bytes))=some (some (.agg #[.nilFunc,.int .i64 0]),2,16):=by kernel_rfl
def iz (l:List Nat):List Value:=l.map fun (n:Nat)=>.int .i64 (n:Int)
def RCPost (wt:Bool) (L:List (List UInt8)) (w:World) (e:Ending) (w':World):Prop :=
 Below w.heap.size w w'∧((Sp.fmd wt L 0=true∧∃ g cap fs ms,e = .returned (.tuple #[.slice (some ⟨g,0,none⟩) L.length cap,.bool true])∧w.heap.size≤g∧w'.ownsRow w.heap.size 336 2 (.slice (some ⟨g,0,none⟩) L.length cap) L.length (cz fs ms)∧fs.length=L.length∧Sp.rdTo L L.length=some (ms,[])∧∀ j (hj:j < L.length),Fn w' w'.heap.size L[j] (fs.getD j .nilFunc))∨(Sp.fmd wt L 0=false∧∃ p n cap,e = .returned (.tuple #[.slice p n cap,.bool false])))
structure RdInv (wt:Bool) (L:List (List UInt8)) (w wr:World) (i:Nat) (c o:Value) (fs:List Value) (ms op:List Nat):Prop where
 le:i≤L.length
 below:Below w.heap.size w wr
 row:wr.ownsRow w.heap.size 336 2 c i (cz fs ms)
 ops:wr.ownsRow w.heap.size 3 1 o op.length (iz op)
 fl:fs.length=i
 rd:Sp.rdTo L i=some (ms,op)
 fm:Sp.fmd wt L 0=Sp.fmd wt (L.drop i) op.length
 fn:∀ j (hj:j < L.length),j < i→Fn wr wr.heap.size L[j] (fs.getD j .nilFunc)
 ol:∀ x ∈ op,x < i
 oi:op.length≤i
theorem Fn.below {w w':World} {x:List UInt8} {fv:Value} (h:Fn w w.heap.size x fv) (hb:Below w.heap.size w w'):Fn w' w'.heap.size x fv:=by
 rcases h with ⟨B,n,h1,h2,h3,h4⟩ | h
 ·exact Or.inl ⟨B,n,Nat.lt_of_lt_of_le h1 hb.size,h2,(hb.block B h1).trans h3,h4⟩
 ·exact Or.inr h
theorem Fn.grown {w w':World} {x:List UInt8} {fv v:Value} {B e size n:Nat} {xs:List Value} (h:Fn w w.heap.size x fv) (ho:w.ownsRow B e size v n xs) (hg:w.grownBy w' v.ownBlock) (he:e≠2):Fn w' w'.heap.size x fv:=by
 rcases h with ⟨D,m,h1,h2,h3,h4⟩ | h
 ·refine Or.inl ⟨D,m,Nat.lt_of_lt_of_le h1 hg.size,h2,?_,h4⟩
  refine(hg.block D h1 ?_).trans h3
  intro hD
  rcases ho.2 with ⟨rfl,_⟩ | ⟨g,cap,cur,rfl,_,hgg,_⟩
  ·simp[Value.ownBlock] at hD
  ·simp only[Value.ownBlock,Option.some.injEq] at hD
   subst hD
   unfold NumAt at h3
   rw[hgg] at h3
   injection h3 with h3
   injection h3 with _ h5
   exact he h5
 ·exact Or.inr h
structure RdMid (L:List (List UInt8)) (B:Nat) (wr:World) (i:Nat) (c o:Value) (fs:List Value) (ms op:List Nat):Prop where
 row:wr.ownsRow B 336 2 c (i+1) (cz fs ms)
 ops:wr.ownsRow B 3 1 o op.length (iz op)
 fl:fs.length=i+1
 ml:ms.length=i+1
 fn:∀ j (hj:j < L.length),j < i+1→Fn wr wr.heap.size L[j] (fs.getD j .nilFunc)
theorem getD_app {fs:List Value} {v d:Value} {j i:Nat} (hl:fs.length=i):(fs++[v]).getD j d=if j < i then fs.getD j d else if j=i then v else d:=by
 rw[List.getD_eq_getElem?_getD,List.getD_eq_getElem?_getD]
 by_cases h:j < i
 ·rw[if_pos h,List.getElem?_append_left (by omega)]
 ·rw[if_neg h,List.getElem?_append_right (by omega),hl]
  by_cases h2:j=i
  ·subst h2;simp
  ·rw[if_neg h2,List.getElem?_eq_none (by simp;omega)];rfl
theorem rd_mid {wt:Bool} {L:List (List UInt8)} {w wr w1 w2 w3:World} {i:Nat} {c c' o fv:Value} {fs:List Value} {ms op:List Nat} (hI:RdInv wt L w wr i c o fs ms op) (hi:i < L.length) (hb1:Below wr.heap.size wr w1) (hfn:Fn w1 w1.heap.size L[i] fv) (hb2:Below w1.heap.size w1 w2)
  (hl3:w3.ownsRow w.heap.size 336 2 c' (i+1) (cz fs ms++[fv,.int .i64 0])) (hg3:w2.grownBy w3 c.ownBlock):RdMid L w.heap.size w3 i c' o (fs++[fv]) (ms++[0]) op∧Below w.heap.size w w3:=by
 have hbw:=hb1.trans (hb2.mono hb1.size)
 have r2:=obl hI.row hbw
 have o2:=obl hI.ops hbw
 have hml:ms.length=i:=by
  have h1:=hI.row.1
  have:∀ (k:Nat) (m' o':List Nat),Sp.rdTo L k=some (m',o')→m'.length=k:=by
   intro k
   induction k with
   | zero=>intro m' o' h;simp[Sp.rdTo] at h;obtain⟨rfl,_⟩:=h;rfl
   | succ k ih =>
    intro m' o' h
    simp only[Sp.rdTo] at h
    split at h
    ·cases h
    ·rename_i m2 o2 h2
     rw[(Sp.rst_len h).1,ih _ _ h2]
  exact this _ _ _ hI.rd
 refine⟨⟨?_,own_app r2 o2 (by decide) hg3,by simp[hI.fl],by simp[hml],?_⟩,?_⟩
 ·rw[cz_app _ _ _ _ (by rw[hI.fl,hml])];exact hl3
 ·intro j hj hj2
  rw[getD_app hI.fl]
  by_cases h:j < i
  ·rw[if_pos h]
   exact(((hI.fn j hj h).below hb1).below hb2).grown r2 hg3 (by decide)
  ·have e:j=i:=by omega
   subst e
   rw[if_neg h,if_pos rfl]
   exact(hfn.below hb2).grown r2 hg3 (by decide)
 ·exact rel_app (ys:=[]) (v':=c') (Nat.le_trans hI.below.size hbw.size) r2 (hI.below.trans (hbw.mono hI.below.size)) hg3
theorem rd_plain {wt:Bool} {L:List (List UInt8)} {w wr w3:World} {i:Nat} {c c' o fv:Value} {fs:List Value} {ms op:List Nat} (hI:RdInv wt L w wr i c o fs ms op) (hi:i < L.length) (hm:RdMid L w.heap.size w3 i c' o (fs++[fv]) (ms++[0]) op) (hb:Below w.heap.size w w3) (ht:Sp.tk wt L[i]≠none) (h1:L[i]≠[91]) (h2:L[i]≠[93]) :
  RdInv wt L w w3 (i+1) c' o (fs++[fv]) (ms++[0]) op:=by
 have hd:=Sp.ds_none h1 h2
 refine⟨by omega,hb,hm.row,hm.ops,hm.fl,?_,?_,fun j hj hj2=>hm.fn j hj hj2,fun x hx=>by have:=hI.ol x hx;omega,by have:=hI.oi;omega⟩
 ·rw[Sp.rdTo,hI.rd]
  simp only
  rw[List.getD_eq_getElem?_getD,List.getElem?_eq_getElem hi,Option.getD_some,Sp.rst,if_neg h1,if_neg h2]
 ·rw[hI.fm,List.drop_eq_getElem_cons hi,Sp.fmd,if_neg (by rintro(hc | hc);exact ht hc;rw[hd] at hc;omega),hd]
  simp
theorem rd_open {wt:Bool} {L:List (List UInt8)} {w wr w3 w4:World} {i:Nat} {c c' o o' fv:Value} {fs:List Value} {ms op:List Nat} (hI:RdInv wt L w wr i c o fs ms op) (hi:i < L.length) (hm:RdMid L w.heap.size w3 i c' o (fs++[fv]) (ms++[0]) op) (hb:Below w.heap.size w w3) (h1:L[i]=[91])
  (hl4:w4.ownsRow w.heap.size 3 1 o' (op.length+1) (iz op++[.int .i64 i])) (w3':World) (hb3:Below w3.heap.size w3 w3') (hg4:w3'.grownBy w4 o.ownBlock) :
  RdInv wt L w w4 (i+1) c' o' (fs++[fv]) (ms++[0]) (op++[i]):=by
 have r3:=obl hm.row hb3
 have o3:=obl hm.ops hb3
 have ht:Sp.tk wt L[i]≠none:=by rw[h1];cases wt <;> decide
 have hd:Sp.ds L[i]=1:=by rw[h1];decide
 refine⟨by omega,rel_app (ys:=[]) (v':=o') (Nat.le_trans hb.size hb3.size) o3 (hb.trans (hb3.mono hb.size)) hg4,own_app o3 r3 (by decide) hg4,?_,hm.fl,?_,?_,fun j hj hj2=>((hm.fn j hj hj2).below hb3).grown o3 hg4 (by decide),?_,by have:=hI.oi;simp;omega⟩
 ·rw[show (op++[i]).length=op.length+1 by simp,show iz (op++[i])=iz op++[.int .i64 i] by simp[iz]];exact hl4
 ·rw[Sp.rdTo,hI.rd]
  simp only
  rw[List.getD_eq_getElem?_getD,List.getElem?_eq_getElem hi,Option.getD_some,Sp.rst,if_pos h1]
 ·rw[hI.fm,List.drop_eq_getElem_cons hi,Sp.fmd,if_neg (by rintro(hc | hc);exact ht hc;rw[hd] at hc;omega),hd]
  simp
 ·intro x hx
  rcases List.mem_append.1 hx with hx | hx
  ·have:=hI.ol x hx;omega
  ·rw[List.mem_singleton] at hx;omega
theorem rd_shut {wt:Bool} {L:List (List UInt8)} {w wr w3:World} {i l gc cc go co:Nat} {c fv:Value} {fs:List Value} {ms op:List Nat} (hI:RdInv wt L w wr i c (.slice (some ⟨go,0,none⟩) (op.length+1) co) fs ms (op++[l])) (hi:i < L.length) (hm:RdMid L w.heap.size w3 i (.slice (some ⟨gc,0,none⟩) (i+1) cc) (.slice (some ⟨go,0,none⟩) (op.length+1) co) (fs++[fv]) (ms++[0]) (op++[l])) (hb:Below w.heap.size w w3) (h1:L[i]=[93]) :
  RdInv wt L w ((w3.setCell ⟨gc,i * 2+1,none⟩ (.int .i64 l)).setCell ⟨gc,l * 2+1,none⟩ (.int .i64 i)) (i+1) (.slice (some ⟨gc,0,none⟩) (i+1) cc) (.slice (some ⟨go,0,none⟩) op.length co) (fs++[fv]) (((ms++[0]).set i l).set l i) op:=by
 have hne:L[i]≠[91]:=by rw[h1];decide
 have ht:Sp.tk wt L[i]≠none:=by rw[h1];cases wt <;> decide
 have hd:Sp.ds L[i] = -1:=by rw[h1];decide
 have s1:=hm.row.stored (i * 2+1) (.int .i64 l)
 have s2:=s1.1.stored (l * 2+1) (.int .i64 i)
 have hlen:(fs++[fv]).length=(ms++[0]).length:=by rw[hm.fl,hm.ml]
 rw[cz_set _ _ _ _ hlen,cz_set _ _ _ _ (by rw[List.length_set];exact hlen)] at s2
 have o1:=own_app hm.row hm.ops (by decide) s1.2
 have o2:=own_app s1.1 o1 (by decide) s2.2
 have hbg:=(hm.row.lt gc rfl).1
 have o3:((w3.setCell ⟨gc,i * 2+1,none⟩ (.int .i64 l)).setCell ⟨gc,l * 2+1,none⟩ (.int .i64 i)).ownsRow w.heap.size 3 1 (.slice (some ⟨go,0,none⟩) (op.length+1) co) (op.length+1) (iz (op++[l])):=by
  have e:(op++[l]).length=op.length+1:=by simp
  rw[e] at o2;exact o2
 have o4:=own_cut o3
 have e4:(iz (op++[l])).take (op.length * 1)=iz op:=by simp[iz]
 rw[e4] at o4
 refine⟨by omega,(hb.setCell hbg _).setCell hbg _,s2.1,o4,hm.fl,?_,?_,fun j hj hj2=>((hm.fn j hj hj2).grown hm.row s1.2 (by decide)).grown s1.1 s2.2 (by decide),fun x hx=>by have:=hI.ol x (List.mem_append_left _ hx);omega,by have:=hI.oi;simp at this;omega⟩
 ·rw[Sp.rdTo,hI.rd]
  simp only
  rw[List.getD_eq_getElem?_getD,List.getElem?_eq_getElem hi,Option.getD_some,Sp.rst,if_neg hne,if_pos h1]
  simp
 ·rw[hI.fm,List.drop_eq_getElem_cons hi,Sp.fmd,if_neg (by rintro(hc | hc);exact ht hc;rw[hd] at hc;simp at hc;omega),hd]
  simp
  congr 1
  omega
theorem own_last {w:World} {B l:Nat} {o:Value} {op:List Nat} (h:w.ownsRow B 3 1 o (op++[l]).length (iz (op++[l]))):∃ g cap,o=Value.slice (some ⟨g,0,none⟩) (op.length+1) cap∧w.cell? ⟨g,op.length,none⟩=some (.int .i64 (l:Int))∧op.length≤cap:=by
 rw[show (op++[l]).length=op.length+1 by simp] at h
 rcases h.2 with ⟨_,hn⟩ | ⟨g,cap,cur,rfl,_,_,hc,_⟩
 ·omega
 ·refine⟨g,cap,rfl,(h.cellAt op.length (by omega)).trans ?_,by omega⟩
  simp[iz]
theorem _root_.Go.World.ownsRow.mate {w:World} {B n g cap:Nat} {fs:List Value} {ms:List Nat} (h:w.ownsRow B 336 2 (.slice (some ⟨g,0,none⟩) n cap) n (cz fs ms)) {j:Nat} (hj:j < n):∃ y,w.cell? ⟨g,j * 2+1,none⟩=some y:=by
 have h1:=h.cellAt (j * 2+1) (by omega)
 have h2:(cz fs ms).length=n * 2:=h.1
 exact⟨_,h1.trans (List.getElem?_eq_getElem (by omega))⟩
theorem readCode_any (X:List ByteArray) (p:Option Addr) (cap b:Nat) (wt:Bool) (w:World) (hX:SAt w p X) (hl:X.length≤4000) (h0:0 < X.length) (hz:∀ x ∈ X,x.size≤4000) (hW:WordsAt b w) :
  Calls Tryz.prog 206 #[.slice p X.length cap,.slice (some ⟨b,0,none⟩) 25 25,.bool wt] w (RCPost wt (lst X) w):=by
 obtain⟨t2,ht2,hva,hvb,hvc⟩:=info_parts Tryz.info_order
 obtain⟨t1,ht1,hua,hub,huc⟩:=info_parts Tryz.info_int
 have HX:=hde hX
 have HZ:=hde hz
 have HW:=hde hW
 have HLL:=hde (lst_len X)
 clear hX hz hW
 generalize hO:RCPost wt (lst X) w=O
 replace hO:=hde hO
 go_enter Tryz.func206,Tryz.ntmps206
 go_wp2_with fail
 go_loopw [8,9,17] (fun cv ov u wr=>∃ (i:Nat) (fs:List Value) (ms op:List Nat),u = .int .i64 i∧i≤X.length∧Hid (RdInv wt (lst X) w wr i cv ov fs ms op)) (fun _ _ u _=>X.length - (intOf u).toNat)
 case atStart=>exact⟨0,[],[],[],rfl,Nat.zero_le _,⟨Nat.zero_le _,Below.refl _ _,World.ownsRow_nil _ _ _ _,World.ownsRow_nil _ _ _ _,rfl,rfl,by simp,fun j hj hj2=>absurd hj2 (by omega),fun x hx=>absurd hx (by simp),Nat.le_refl _⟩⟩
 case round =>
  obtain⟨i,fs,ms,op,rfl,hi,HI⟩:=hrel
  have g0:(0:Int)≤(i:Int):=Int.natCast_nonneg _
  by_cases c:i < X.length
  ·have c1:(i:Int) < (X.length:Int):=by omega
   have hI:=uh HI
   obtain⟨g,off,rfl,hgl,hcell⟩:=(uh HX) i c
   have hcx:wr.cell? ⟨g,off+i,none⟩=some (.string X[i]):=(hI.below.cell (p:=⟨g,off+i,none⟩) hgl).trans hcell
   have hxz:=(uh HZ) _ (List.getElem_mem c)
   have hL:(lst X)[i]'(by rw[uh HLL];exact c)=X[i].data.toList:=lst_get c
   have hil:i < (lst X).length:=by rw[uh HLL];exact c
   generalize X[i]=x at hcx hxz hL
   have HL:=hde hL
   have hWr:=(uh HW).below hI.below
   clear hcell hL hI
   go_wp2_with fail
   refine(findWord_any x b wr hxz hWr).mono ?_
   rintro e w1 ⟨hb1,⟨nm,nw,F,caps,rfl,hfn,ht,htw,htf⟩ | ⟨ht1,ht2,rfl⟩⟩
   ·have hfz:=hfn
    rw[← uh HL] at hfn
    by_cases hbad:nw=true∧wt=false
    ·obtain⟨rfl,rfl⟩:=hbad
     have hp:O (.returned (.tuple #[.slice none 0 0,.bool false])) (w1.alloc (.cells #[.string nm,.bool true,.func (.func F) #[] caps] 322)):=by
      rw[← uh hO]
      have hI:=uh HI
      refine⟨(hI.below.trans (hb1.mono hI.below.size)).alloc (Nat.le_trans hI.below.size hb1.size) _,Or.inr ⟨?_,_,_,_,rfl⟩⟩
      rw[hI.fm,List.drop_eq_getElem_cons hil,Sp.fmd,if_pos (Or.inl (by rw[uh HL];exact htw rfl))]
     clear hb1 hfn hfz
     go_wp2
     exact hp
    ·have htk:Hid (Sp.tk wt (lst X)[i]≠none):=by
      show _≠_
      rw[uh HL]
      cases wt with
      | true=>exact ht
      | false=>exact htf (by cases nw with
       | true=>exact absurd ⟨rfl,rfl⟩ hbad
       | false=>rfl)
     have hI:=uh HI
     have hb2:Below w1.heap.size w1 ((w1.alloc (.cells #[.string nm,.bool nw,.func (.func F) #[] caps] 322)).alloc (.cells #[.func (.func F) #[] caps,.int .i64 0] 336)):=((Below.refl w1.heap.size w1).alloc nlr _).alloc (by simp) _
     have hbw:=hb1.trans (hb2.mono hb1.size)
     have r2:=obl hI.row hbw
     have hsz:=Nat.le_trans hI.below.size hbw.size
     have HFN:=hde hfn
     have HB1:=hde hb1
     clear hfn hfz hb1 ht htw htf hI hbw
     cases nw with
     | true =>
      obtain rfl:wt=true:=by cases wt with
       | true=>rfl
       | false=>exact absurd ⟨rfl,rfl⟩ hbad
      clear hbad
      go_wp2_with (first
       | (at_builtin;go_must (refine wpList_append_own _ rfl (.tmp 38) (.tmp 42) 170 rfl w.heap.size 336 t2 _ 2 16 Tryz.underlying170 ht2 hva hvb hvc rfl (by decide) _ _ _ rfl r2 ⟨w1.heap.size+1,0,none⟩ 1 1 [.func (.func F) #[] caps,.int .i64 0] rfl rfl ?c1 ?c2 ?c3 ?c4 ?c5 ?_))
       | go_in)
      case c1 =>
       intro j u hj
       match j,hj with
       | 0,hj=>simp at hj;subst hj;simp[Addr.add]
       | 1,hj=>simp at hj;subst hj;simp[Addr.add]
       | j+2,hj=>simp at hj
      case c2=>intro u hu;simp at hu;rcases hu with rfl | rfl <;> rfl
      case c3=>unfold maxLen;omega
      case c4=>omega
      case c5=>exact hsz
      intro c3 w3 hl3 hg3 hne3
      obtain⟨hmid,hbm⟩:=rd_mid (uh HI) hil (uh HB1) (uh HFN) hb2 hl3 hg3
      obtain⟨g3,cap3,rfl⟩:∃ g cap,c3 = .slice (some ⟨g,0,none⟩) (i+1) cap:=by
       rcases hl3.2 with ⟨_,hn0⟩ | ⟨g,cap,cur,hv,_⟩
       ·omega
       ·exact⟨g,cap,hv⟩
      have HM:=hde hmid
      have HBM:=hde hbm
      clear hl3 hg3 r2 hb2 hmid hbm hsz HB1 hne3
      by_cases h91:x.data.toList=[91]
      ·have t91:(x.toList == [91])=true:=by rw[toL,h91];decide
       have H91:=hde h91
       clear h91
       have o3:=(uh HM).ops
       have hsz3:=(uh HBM).size
       go_wp2_with (first
        | (at_builtin;go_must (refine wpList_append_own _ rfl (.tmp 47) (.tmp 49) 72 rfl w.heap.size 3 t1 _ 1 8 Tryz.underlying72 ht1 hua hub huc rfl (by decide) _ _ _ rfl (o3.alloc _) ⟨w3.heap.size,0,none⟩ 1 1 [.int .i64 (i:Int)] rfl rfl ?d1 ?d2 ?d3 ?d4 ?d5 ?_))
        | go_in)
       case d1 =>
        intro j u hj
        match j,hj with
        | 0,hj=>simp at hj;subst hj;simp[Addr.add]
        | j+1,hj=>simp at hj
       case d2=>intro u hu;simp at hu;subst hu;rfl
       case d3=>have:=(uh HI).oi;unfold maxLen;omega
       case d4=>have:=(uh HI).oi;omega
       case d5=>simp;omega
       intro o4 w4 hl4 hg4 hne4
       have HI4:=hde (rd_open (uh HI) hil (uh HM) (uh HBM) ((uh HL).trans (uh H91)) hl4 _ ((Below.refl w3.heap.size w3).alloc nlr _) hg4)
       obtain⟨q4,k4,rfl,_⟩:=osl hl4
       clear hl4 hg4 o3
       go_wp2
       go_roundw
       case rel=>exact⟨i+1,_,_,_,by go_num,by omega,HI4⟩
       case measure=>simp[intOf];omega
      ·have t91:(x.toList == [91])=false:=by rw[toL];exact beq_eq_false_iff_ne.2 h91
       have H91:=hde h91
       clear h91
       by_cases h93:x.data.toList=[93]
       ·have t93:(x.toList == [93])=true:=by rw[toL,h93];decide
        have H93:=hde h93
        clear h93
        have o3:=(uh HM).ops
        by_cases h0p:op=[]
        ·subst h0p
         obtain⟨qo,ko,rfl,_⟩:=osl o3
         have hp:O (.returned (.tuple #[.slice none 0 0,.bool false])) w3:=by
          rw[← uh hO]
          have hI:=uh HI
          refine⟨uh HBM,Or.inr ⟨?_,_,_,_,rfl⟩⟩
          rw[hI.fm,List.drop_eq_getElem_cons hil,Sp.fmd,if_pos (Or.inr (by rw[uh HL,uh H93];decide))]
         clear o3
         go_wp2
         exact hp
        ·obtain⟨op,l,rfl⟩:∃ a m,op=a++[m]:=⟨op.dropLast,op.getLast h0p,(List.dropLast_concat_getLast h0p).symm⟩
         clear h0p
         obtain⟨go,co,rfl,hgo,hcap⟩:∃ g cap,_=Value.slice (some ⟨g,0,none⟩) (op.length+1) cap∧w3.cell? ⟨g,op.length,none⟩=some (.int .i64 (l:Int))∧op.length≤cap:=own_last o3
         have hll:l < i:=(uh HI).ol l (by simp)
         have hll2:l < i+1:=by omega
         have HI4:=hde (rd_shut (uh HI) hil (uh HM) (uh HBM) ((uh HL).trans (uh H93)))
         have hoi:op.length≤4000:=by have:=(uh HI).oi;simp at this;omega
         obtain⟨y1,hy1⟩:=(uh HM).row.mate (j:=i) (by omega)
         obtain⟨y2,hy2⟩:=(uh HM).row.mate (j:=l) (by omega)
         have hy3:(w3.setCell ⟨g3,i * 2+1,none⟩ (.int .i64 (l:Int))).cell? ⟨g3,l * 2+1,none⟩=some y2:=(cso (by omega)).trans hy2
         have z1:=(uh HM).row.frozenAt (i * 2+1)
         have z2:=(uh HM).row.frozenAt (l * 2+1)
         have g1:((op.length+1:Nat):Int) - 1=(op.length:Int):=by omega
         have g2:(0:Int)≤(op.length:Int):=Int.natCast_nonneg _
         have g3:(op.length:Int) < ((op.length+1:Nat):Int):=by omega
         have g4:(op.length:Int)≤(co:Int):=by omega
         have g5:(0:Int)≤(l:Int):=Int.natCast_nonneg _
         have g6:(l:Int) < ((i+1:Nat):Int):=by omega
         have g7:(i:Int) < ((i+1:Nat):Int):=by omega
         clear o3
         go_wp2
         go_roundw
         case rel=>exact⟨i+1,_,_,_,by go_num,by omega,HI4⟩
         case measure=>simp[intOf];omega
       ·have t93:(x.toList == [93])=false:=by rw[toL];exact beq_eq_false_iff_ne.2 h93
        have H93:=hde h93
        clear h93
        have HI4:=hde (rd_plain (uh HI) hil (uh HM) (uh HBM) (uh htk) (by rw[uh HL];exact uh H91) (by rw[uh HL];exact uh H93))
        go_wp2
        go_roundw
        case rel=>exact⟨i+1,_,_,_,by go_num,by omega,HI4⟩
        case measure=>simp[intOf];omega
     | false =>
      clear hbad
      go_wp2_with (first
       | (at_builtin;go_must (refine wpList_append_own _ rfl (.tmp 38) (.tmp 42) 170 rfl w.heap.size 336 t2 _ 2 16 Tryz.underlying170 ht2 hva hvb hvc rfl (by decide) _ _ _ rfl r2 ⟨w1.heap.size+1,0,none⟩ 1 1 [.func (.func F) #[] caps,.int .i64 0] rfl rfl ?c1 ?c2 ?c3 ?c4 ?c5 ?_))
       | go_in)
      case c1 =>
       intro j u hj
       match j,hj with
       | 0,hj=>simp at hj;subst hj;simp[Addr.add]
       | 1,hj=>simp at hj;subst hj;simp[Addr.add]
       | j+2,hj=>simp at hj
      case c2=>intro u hu;simp at hu;rcases hu with rfl | rfl <;> rfl
      case c3=>unfold maxLen;omega
      case c4=>omega
      case c5=>exact hsz
      intro c3 w3 hl3 hg3 hne3
      obtain⟨hmid,hbm⟩:=rd_mid (uh HI) hil (uh HB1) (uh HFN) hb2 hl3 hg3
      obtain⟨g3,cap3,rfl⟩:∃ g cap,c3 = .slice (some ⟨g,0,none⟩) (i+1) cap:=by
       rcases hl3.2 with ⟨_,hn0⟩ | ⟨g,cap,cur,hv,_⟩
       ·omega
       ·exact⟨g,cap,hv⟩
      have HM:=hde hmid
      have HBM:=hde hbm
      clear hl3 hg3 r2 hb2 hmid hbm hsz HB1 hne3
      by_cases h91:x.data.toList=[91]
      ·have t91:(x.toList == [91])=true:=by rw[toL,h91];decide
       have H91:=hde h91
       clear h91
       have o3:=(uh HM).ops
       have hsz3:=(uh HBM).size
       go_wp2_with (first
        | (at_builtin;go_must (refine wpList_append_own _ rfl (.tmp 47) (.tmp 49) 72 rfl w.heap.size 3 t1 _ 1 8 Tryz.underlying72 ht1 hua hub huc rfl (by decide) _ _ _ rfl (o3.alloc _) ⟨w3.heap.size,0,none⟩ 1 1 [.int .i64 (i:Int)] rfl rfl ?d1 ?d2 ?d3 ?d4 ?d5 ?_))
        | go_in)
       case d1 =>
        intro j u hj
        match j,hj with
        | 0,hj=>simp at hj;subst hj;simp[Addr.add]
        | j+1,hj=>simp at hj
       case d2=>intro u hu;simp at hu;subst hu;rfl
       case d3=>have:=(uh HI).oi;unfold maxLen;omega
       case d4=>have:=(uh HI).oi;omega
       case d5=>simp;omega
       intro o4 w4 hl4 hg4 hne4
       have HI4:=hde (rd_open (uh HI) hil (uh HM) (uh HBM) ((uh HL).trans (uh H91)) hl4 _ ((Below.refl w3.heap.size w3).alloc nlr _) hg4)
       obtain⟨q4,k4,rfl,_⟩:=osl hl4
       clear hl4 hg4 o3
       go_wp2
       go_roundw
       case rel=>exact⟨i+1,_,_,_,by go_num,by omega,HI4⟩
       case measure=>simp[intOf];omega
      ·have t91:(x.toList == [91])=false:=by rw[toL];exact beq_eq_false_iff_ne.2 h91
       have H91:=hde h91
       clear h91
       by_cases h93:x.data.toList=[93]
       ·have t93:(x.toList == [93])=true:=by rw[toL,h93];decide
        have H93:=hde h93
        clear h93
        have o3:=(uh HM).ops
        by_cases h0p:op=[]
        ·subst h0p
         obtain⟨qo,ko,rfl,_⟩:=osl o3
         have hp:O (.returned (.tuple #[.slice none 0 0,.bool false])) w3:=by
          rw[← uh hO]
          have hI:=uh HI
          refine⟨uh HBM,Or.inr ⟨?_,_,_,_,rfl⟩⟩
          rw[hI.fm,List.drop_eq_getElem_cons hil,Sp.fmd,if_pos (Or.inr (by rw[uh HL,uh H93];decide))]
         clear o3
         go_wp2
         exact hp
        ·obtain⟨op,l,rfl⟩:∃ a m,op=a++[m]:=⟨op.dropLast,op.getLast h0p,(List.dropLast_concat_getLast h0p).symm⟩
         clear h0p
         obtain⟨go,co,rfl,hgo,hcap⟩:∃ g cap,_=Value.slice (some ⟨g,0,none⟩) (op.length+1) cap∧w3.cell? ⟨g,op.length,none⟩=some (.int .i64 (l:Int))∧op.length≤cap:=own_last o3
         have hll:l < i:=(uh HI).ol l (by simp)
         have hll2:l < i+1:=by omega
         have HI4:=hde (rd_shut (uh HI) hil (uh HM) (uh HBM) ((uh HL).trans (uh H93)))
         have hoi:op.length≤4000:=by have:=(uh HI).oi;simp at this;omega
         obtain⟨y1,hy1⟩:=(uh HM).row.mate (j:=i) (by omega)
         obtain⟨y2,hy2⟩:=(uh HM).row.mate (j:=l) (by omega)
         have hy3:(w3.setCell ⟨g3,i * 2+1,none⟩ (.int .i64 (l:Int))).cell? ⟨g3,l * 2+1,none⟩=some y2:=(cso (by omega)).trans hy2
         have z1:=(uh HM).row.frozenAt (i * 2+1)
         have z2:=(uh HM).row.frozenAt (l * 2+1)
         have g1:((op.length+1:Nat):Int) - 1=(op.length:Int):=by omega
         have g2:(0:Int)≤(op.length:Int):=Int.natCast_nonneg _
         have g3:(op.length:Int) < ((op.length+1:Nat):Int):=by omega
         have g4:(op.length:Int)≤(co:Int):=by omega
         have g5:(0:Int)≤(l:Int):=Int.natCast_nonneg _
         have g6:(l:Int) < ((i+1:Nat):Int):=by omega
         have g7:(i:Int) < ((i+1:Nat):Int):=by omega
         clear o3
         go_wp2
         go_roundw
         case rel=>exact⟨i+1,_,_,_,by go_num,by omega,HI4⟩
         case measure=>simp[intOf];omega
       ·have t93:(x.toList == [93])=false:=by rw[toL];exact beq_eq_false_iff_ne.2 h93
        have H93:=hde h93
        clear h93
        have HI4:=hde (rd_plain (uh HI) hil (uh HM) (uh HBM) (uh htk) (by rw[uh HL];exact uh H91) (by rw[uh HL];exact uh H93))
        go_wp2
        go_roundw
        case rel=>exact⟨i+1,_,_,_,by go_num,by omega,HI4⟩
        case measure=>simp[intOf];omega
   ·have hp:O (.returned (.tuple #[.slice none 0 0,.bool false])) (w1.alloc (.cells #[.string ⟨#[]⟩,.bool false,.nilFunc] 322)):=by
     rw[← uh hO]
     have hI:=uh HI
     refine⟨(hI.below.trans (hb1.mono hI.below.size)).alloc (Nat.le_trans hI.below.size hb1.size) _,Or.inr ⟨?_,_,_,_,rfl⟩⟩
     rw[hI.fm,List.drop_eq_getElem_cons hil,Sp.fmd,if_pos (Or.inl (by rw[uh HL];cases wt;exact ht2;exact ht1))]
    unfold noWord
    clear hb1
    go_wp2
    exact hp
  ·have c1:¬ (i:Int) < (X.length:Int):=by omega
   have ei:i=X.length:=by omega
   subst ei
   have hI:=uh HI
   have eil:X.length=(lst X).length:=(uh HLL).symm
   by_cases h0:op=[]
   ·subst h0
    obtain⟨qc,kc,rfl,hcs⟩:=osl hI.row
    obtain⟨qo,ko,rfl,hos⟩:=osl hI.ops
    have hp:O (.returned (.tuple #[.slice qc X.length kc,.bool true])) wr:=by
     rw[← uh hO]
     obtain⟨g,rfl,hg1,hg2,_⟩:=hcs 0 (by omega)
     refine⟨hI.below,Or.inl ⟨?_,g,kc,fs,ms,?_,hg1,?_,?_,?_,?_⟩⟩
     ·rw[hI.fm,List.drop_of_length_le (by omega)];rfl
     ·rw[← eil]
     ·rw[← eil];exact hI.row
     ·rw[← eil];exact hI.fl
     ·rw[← eil];exact hI.rd
     ·intro j hj;exact hI.fn j hj (by omega)
    clear hcs hos hI eil
    go_wp2
    exact hp
   ·obtain⟨qc,kc,rfl,hcs⟩:=osl hI.row
    obtain⟨qo,ko,rfl,hos⟩:=osl hI.ops
    have hp:O (.returned (.tuple #[.slice qc X.length kc,.bool false])) wr:=by
     rw[← uh hO]
     refine⟨hI.below,Or.inr ⟨?_,_,_,_,rfl⟩⟩
     rw[hI.fm,List.drop_of_length_le (by omega),Sp.fmd]
     exact decide_eq_false (fun e=>h0 (List.eq_nil_of_length_eq_zero (by omega)))
    have hq:((op.length:Int) == 0)=false:=beq_eq_false_iff_ne.2 (fun e=>h0 (List.eq_nil_of_length_eq_zero (by omega)))
    clear hcs hos hI eil
    go_wp2
    exact hp
end Go.Proofs.YteflnddphpjahaaGreatDoor
namespace Go.Proofs.YteflnddphpjahaaGreatDoor.Sp
open Go
theorem spl_at (c:UInt8):∀ (p r:List UInt8),c ∉ p→spl c (p++c :: r)=p :: spl c r:=by
 intro p
 induction p with
 | nil=>intro r h;simp[spl]
 | cons b p ih =>
  intro r h
  have hb:¬ b=c:=fun e=>h (by rw[e];exact List.mem_cons_self ..)
  simp only[List.cons_append,spl,if_neg hb]
  rw[ih r (fun hm=>h (List.mem_cons_of_mem _ hm))]
theorem spl_back (c:UInt8):∀ (l p:List UInt8) (t:List (List UInt8)),spl c l=p :: t→t≠[]→∃ r,l=p++c :: r∧spl c r=t:=by
 intro l
 induction l with
 | nil=>intro p t h ht;simp[spl] at h;exact absurd h.2 (fun e=>ht (by first | exact e | exact e.symm))
 | cons b l ih =>
  intro p t h ht
  simp only[spl] at h
  split at h
  ·rename_i hb
   injection h with h1 h2
   subst h1 hb
   exact⟨l,rfl,h2⟩
  ·obtain⟨h',t',e⟩:=spl_ne c l
   rw[e] at h
   injection h with h1 h2
   subst h1 h2
   obtain⟨r,hr,hs⟩:=ih h' t' e ht
   exact⟨r,by rw[hr];rfl,hs⟩
theorem hd_no:∀ i,i < 7→(32:UInt8) ∉ hd i:=by decide
theorem ws_map (x:ByteArray):(ws x).map (·.data.toList)=spl 32 x.data.toList:=split_spl x 32
theorem head_map {X:List ByteArray}:(X.headD ⟨#[]⟩).data.toList=(X.map (·.data.toList)).headD []:=by cases X <;> rfl
theorem tail_map {X:List ByteArray}:X.tail.map (·.data.toList)=(X.map (·.data.toList)).tail:=by cases X <;> rfl
theorem lineOk_no {x:ByteArray} {i:Nat} (hi:i < 7) (h:¬ (hd i++[32]) <+: x.data.toList):lineOk i x=false:=by
 apply Bool.eq_false_iff.2
 intro hk
 unfold lineOk at hk
 rw[Bool.and_eq_true] at hk
 obtain⟨h1,h2⟩:=hk
 have h1:=of_decide_eq_true h1
 rw[head_map,ws_map] at h1
 have ht:(spl 32 x.data.toList).tail≠[]:=by
  rw[← ws_map,← tail_map]
  intro he
  have he':(ws x).tail=[]:=by cases hq:(ws x).tail with
   | nil=>rfl
   | cons a b=>rw[hq] at he;cases he
  rw[he'] at h2
  split at h2
  ·simp at h2
  ·simp at h2
 cases hq:spl 32 x.data.toList with
 | nil=>rw[hq] at ht;exact ht rfl
 | cons a b =>
  rw[hq] at h1 ht
  simp only[List.headD_cons] at h1
  subst h1
  obtain⟨r,hr,_⟩:=spl_back 32 _ _ _ hq ht
  exact h ⟨r,by rw[hr];simp⟩
theorem ws_tail {x rest:ByteArray} {i:Nat} (hi:i < 7) (h:x.data.toList=hd i++32 :: rest.data.toList):(ws x).tail=split rest 32∧((ws x).headD ⟨#[]⟩).data.toList=hd i:=by
 have e:=ws_map x
 rw[h,spl_at 32 _ _ (hd_no i hi)] at e
 constructor
 ·apply list_inj
  rw[tail_map,e,List.tail_cons]
  exact(split_spl rest 32).symm
 ·rw[head_map,e,List.headD_cons]
theorem lineOk_code {x rest:ByteArray} {i:Nat} (hi:i < 5) (h:x.data.toList=hd i++32 :: rest.data.toList):lineOk i x=fmd (i == 2) ((split rest 32).map (·.data.toList)) 0:=by
 obtain⟨e1,e2⟩:=ws_tail (by omega) h
 unfold lineOk
 rw[e1,e2,if_neg (by omega)]
 have hne:(split rest 32).isEmpty=false:=by
  have:=(split_len rest 32).1
  cases hq:split rest 32 with
  | nil=>rw[hq] at this;simp at this
  | cons a b=>rfl
 rw[hne]
 simp
theorem lineOk_comb {x rest:ByteArray} {i:Nat} (hi:5≤i) (h7:i < 7) (h:x.data.toList=hd i++32 :: rest.data.toList):lineOk i x=(decide ((split rest 32).length=1) && decide (((split rest 32).headD ⟨#[]⟩).data.toList ∈ combsL)):=by
 obtain⟨e1,e2⟩:=ws_tail h7 h
 unfold lineOk
 rw[e1,e2,if_pos hi]
 simp
theorem pre_rest {x:ByteArray} {p:List UInt8} (h:p <+: x.data.toList):x.data.toList=p++(x.extract p.length x.size).data.toList:=by
 obtain⟨r,hr⟩:=h
 have:(x.extract p.length x.size).data.toList=x.data.toList.drop p.length:=by
  rw[ByteArray.data_extract,Array.toList_extract,List.extract_eq_take_drop]
  have:x.size=x.data.toList.length:=Array.length_toList.symm
  rw[this,List.take_of_length_le (by simp)]
 rw[this,← hr];simp
theorem pre_take {x:ByteArray} {p:List UInt8} (h:p.length≤x.size):(x.extract 0 p.length).toList=p↔p <+: x.data.toList:=by
 have hz:x.size=x.data.toList.length:=Array.length_toList.symm
 have:(x.extract 0 p.length).toList=x.data.toList.take p.length:=by
  rw[ByteArray.toList_eq,ByteArray.data_extract,Array.toList_extract,List.extract_eq_take_drop]
  simp
 rw[this,List.prefix_iff_eq_take]
 exact⟨fun h=>h.symm,fun h=>h.symm⟩
theorem pre_len {x:ByteArray} {p:List UInt8} (h:p <+: x.data.toList):p.length≤x.size:=by
 have hz:x.size=x.data.toList.length:=Array.length_toList.symm
 rw[hz];exact h.length_le
theorem split_lib32 (s:ByteArray):Lib.splitB ⟨#[32]⟩ 0 (Lib.countB s ⟨#[32]⟩) s=split s 32:=by
 apply list_inj
 rw[Lib.splitB_data]
 have:=split_spl s 32
 rw[show (32:UInt8).toNat=32 from rfl] at this
 rw[this]
 exact splitK_spl 32 s.data.toList
theorem split_count32 (s:ByteArray):Lib.countB s ⟨#[32]⟩ + 1=(split s 32).length:=by
 rw[← split_lib32,Lib.splitB_all ⟨#[32]⟩ (by decide) 0 _ s rfl]
end Go.Proofs.YteflnddphpjahaaGreatDoor.Sp
namespace Go.Proofs.YteflnddphpjahaaGreatDoor
open Go.RowKit
theorem psplit_any (s:ByteArray) (w:World) (hs:s.size≤4000) (hg:SplitOk w):Calls Tryz.prog 68 #[.string s,.string ⟨#[32]⟩] w fun e w'=>e = .returned (.slice (some ⟨w.heap.size,0,none⟩) (Sp.split s 32).length (Sp.split s 32).length)∧w'=w.alloc (.cells ((Sp.split s 32).map Value.string).toArray 9):=by
 obtain⟨m,hm⟩:=hg
 have h:=Tryz.strings_Split s ⟨#[32]⟩ m w (by omega) hm (by decide)
 rw[Sp.split_lib32,Sp.split_count32] at h
 exact h
theorem psplit10_any (s:ByteArray) (w:World) (hs:s.size≤4000) (hg:SplitOk w):Calls Tryz.prog 68 #[.string s,.string ⟨#[10]⟩] w fun e w'=>e = .returned (.slice (some ⟨w.heap.size,0,none⟩) (Sp.split s 10).length (Sp.split s 10).length)∧w'=w.alloc (.cells ((Sp.split s 10).map Value.string).toArray 9):=by
 obtain⟨m,hm⟩:=hg
 have h:=Tryz.strings_Split s ⟨#[10]⟩ m w (by omega) hm (by decide)
 rw[Sp.split_lib,Sp.split_count] at h
 exact h
theorem sat_alloc (w:World) (X:List ByteArray):SAt (w.alloc (.cells (X.map Value.string).toArray 9)) (some ⟨w.heap.size,0,none⟩) X:=fun j hj=>by
 refine⟨w.heap.size,0,rfl,by simp,?_⟩
 rw[Nat.zero_add,World.cell?_alloc_mark]
 simp[List.getElem?_eq_getElem hj]
def SLPost (P:List UInt8) (x:ByteArray) (w:World) (e:Ending) (w':World):Prop :=
 Below w.heap.size w w'∧((¬ P <+: x.data.toList∧∃ p n cap,e = .returned (.tuple #[.slice p n cap,.bool false]))∨(∃ rest:ByteArray,rest.size≤x.size∧x.data.toList=P++rest.data.toList∧∃ g,w.heap.size≤g∧e = .returned (.tuple #[.slice (some ⟨g,0,none⟩) (Sp.split rest 32).length (Sp.split rest 32).length,.bool true])∧SAt w' (some ⟨g,0,none⟩) (Sp.split rest 32)))
theorem splitLine_any (x nm:ByteArray) (w:World) (hx:x.size≤2000) (hn:nm.size≤10) (hg:SplitOk w) :
  Calls Tryz.prog 205 #[.string x,.string nm] w (SLPost (nm.data.toList++[58,32]) x w):=by
 have hpd:(nm++⟨#[58,32]⟩:ByteArray).data.toList=nm.data.toList++[58,32]:=by simp
 have hpz:(nm++⟨#[58,32]⟩:ByteArray).size=nm.size+2:=by rw[ByteArray.size_append];rfl
 have HPD:=hde hpd
 have HPZ:=hde hpz
 have hpl:(nm++⟨#[58,32]⟩:ByteArray).size≤12:=by omega
 have hpre:(nm.data.toList++[58,32]).length=nm.size+2:=by
  rw[← uh HPD,← uh HPZ];exact Array.length_toList
 have HG:=hde hg
 clear hpd hpz hg
 by_cases hp:(nm.data.toList++[58,32]) <+: x.data.toList
 ·have hle:=Sp.pre_len hp
  rw[hpre] at hle
  have hr:=Sp.pre_rest hp
  rw[hpre] at hr
  have ht:((x.extract 0 (nm.size+2)).toList == (nm++⟨#[58,32]⟩:ByteArray).toList)=true:=by
   rw[toL (nm++⟨#[58,32]⟩),uh HPD,beq_iff_eq]
   have:=(Sp.pre_take (x:=x) (p:=nm.data.toList++[58,32]) (by omega)).2 hp
   rw[hpre] at this
   exact this
  have c1:(nm.size:Int)+2≤(x.size:Int):=by omega
  have hrz:(x.extract (nm.size+2) x.size).size≤x.size:=by rw[ByteArray.size_extract];omega
  have HC:Hid (∀ (e:Ending) (w':World),(e = .returned (.slice (some ⟨w.heap.size,0,none⟩) (Sp.split (x.extract (nm.size+2) x.size) 32).length (Sp.split (x.extract (nm.size+2) x.size) 32).length)∧w'=w.alloc (.cells ((Sp.split (x.extract (nm.size+2) x.size) 32).map Value.string).toArray 9))→SLPost (nm.data.toList++[58,32]) x w (.returned (.tuple #[.slice (some ⟨w.heap.size,0,none⟩) (Sp.split (x.extract (nm.size+2) x.size) 32).length (Sp.split (x.extract (nm.size+2) x.size) 32).length,.bool true])) w'):=by
   show ∀ (e:Ending) (w':World),_→_
   rintro e w' ⟨rfl,rfl⟩
   exact⟨(Below.refl _ _).alloc nlr _,Or.inr ⟨_,hrz,hr,w.heap.size,Nat.le_refl _,rfl,sat_alloc w _⟩⟩
  have hS:=psplit_any (x.extract (nm.size+2) x.size) w (by omega) (uh HG)
  have HS:=hde hS
  generalize hO:SLPost (nm.data.toList++[58,32]) x w=O at HC ⊢
  clear hS hp hle hr hpre hrz hO
  go_enter Tryz.func205,Tryz.ntmps205
  go_wp2_with (first | (go_at_call 68;go_must (refine(uh HS).mono ?_;rintro e w1 ⟨rfl,hw1⟩;have hfin:=uh HC _ w1 ⟨rfl,hw1⟩;clear hw1)) | go_in)
  exact hfin
 ·have HC:Hid (∀ (X:List ByteArray) (w':World),w'=w.alloc (.cells (X.map Value.string).toArray 9)→SLPost (nm.data.toList++[58,32]) x w (.returned (.tuple #[.slice (some ⟨w.heap.size,0,none⟩) X.length X.length,.bool false])) w'):=by
   show ∀ (X:List ByteArray) (w':World),_→_
   rintro X w' rfl
   exact⟨(Below.refl _ _).alloc nlr _,Or.inl ⟨hp,_,_,_,rfl⟩⟩
  have hS:=psplit_any x w (by omega) (uh HG)
  have HS:=hde hS
  have ht:nm.size+2≤x.size→((x.extract 0 (nm.size+2)).toList == (nm++⟨#[58,32]⟩:ByteArray).toList)=false:=by
   intro hle
   rw[toL (nm++⟨#[58,32]⟩),uh HPD]
   apply beq_eq_false_iff_ne.2
   intro he
   apply hp
   refine(Sp.pre_take (x:=x) (p:=nm.data.toList++[58,32]) (by omega)).1 ?_
   rw[hpre];exact he
  generalize hO:SLPost (nm.data.toList++[58,32]) x w=O at HC ⊢
  clear hS hp hpre hO
  by_cases hle:nm.size+2≤x.size
  ·have c1:(nm.size:Int)+2≤(x.size:Int):=by omega
   have ht:=ht hle
   go_enter Tryz.func205,Tryz.ntmps205
   go_wp2_with (first | (go_at_call 68;go_must (refine(uh HS).mono ?_;rintro e w1 ⟨rfl,hw1⟩;have hfin:=uh HC _ w1 hw1;clear hw1)) | go_in)
   exact hfin
  ·have c1:¬ (nm.size:Int)+2≤(x.size:Int):=by omega
   clear ht
   go_enter Tryz.func205,Tryz.ntmps205
   go_wp2_with (first | (go_at_call 68;go_must (refine(uh HS).mono ?_;rintro e w1 ⟨rfl,hw1⟩;have hfin:=uh HC _ w1 hw1;clear hw1)) | go_in)
   exact hfin
def cmN:List Int:=[9223372036854775807,-9223372036854775808,0]
def cmF:List Nat:=[301,302,303]
def cmNm (k:Nat):ByteArray:=⟨⟨Sp.combsL[k]!⟩⟩
def cmFn (k:Nat):Value := .func (.func (cmF[k]!)) #[] #[]
def cmNt (k:Nat):Int:=cmN[k]!
def cmbV (k:Nat):Value := .agg #[.string (cmNm k),.int .i64 (cmNt k),cmFn k]
def noCmb:Value := .agg #[.string ⟨#[]⟩,.int .i64 0,.nilFunc]
def FCPost (x:List UInt8) (w:World) (e:Ending) (w':World):Prop :=
 Below w.heap.size w w'∧((∃ k,k < 3∧Sp.combsL[k]! = x∧e = .returned (.tuple #[cmbV k,.bool true]))∨(x ∉ Sp.combsL∧e = .returned (.tuple #[noCmb,.bool false])))
def cmbsV:Array Value := #[.string ⟨#[109,105,110]⟩,.int .i64 9223372036854775807,.func (.func 301) #[] #[],.string ⟨#[109,97,120]⟩,.int .i64 (-9223372036854775808),.func (.func 302) #[] #[],.string ⟨#[115,117,109]⟩,.int .i64 0,.func (.func 303) #[] #[]]
theorem cmbs_cells {b:Nat} {w:World} {t:Nat} (h:w.heap[b]? = some (.cells cmbsV t)):(k:Nat)→k < 3 →
  w.cell? ⟨b,k * 3,none⟩=some (.string (cmNm k))∧w.cell? ⟨b,k * 3+1,none⟩=some (.int .i64 (cmNt k))∧w.cell? ⟨b,k * 3+2,none⟩=some (cmFn k)
 | 0,_=>⟨by simp only[World.cell?,h];rfl,by simp only[World.cell?,h];rfl,by simp only[World.cell?,h];rfl⟩
 | 1,_=>⟨by simp only[World.cell?,h];rfl,by simp only[World.cell?,h];rfl,by simp only[World.cell?,h];rfl⟩
 | 2,_=>⟨by simp only[World.cell?,h];rfl,by simp only[World.cell?,h];rfl,by simp only[World.cell?,h];rfl⟩
 | n+3,h=>absurd h (by omega)
theorem combs_any (w:World):Calls Tryz.prog 254 #[] w fun e w'=>e = .returned (.slice (some ⟨w.heap.size,0,none⟩) 3 3)∧Below w.heap.size w w'∧w'.heap[w.heap.size]? = some (.cells cmbsV 173):=by
 go_enter Tryz.func254,Tryz.ntmps254
 go_wp2
 exact bodyPost_ret (v := .slice (some ⟨w.heap.size,0,none⟩) 3 3) (by simp[results,Tryz.results254,go_sem]) rfl ⟨rfl,(Below.refl _ _).alloc nlr _,Array.getElem?_push_size⟩
theorem findCombination_any (s:ByteArray) (w:World):Calls Tryz.prog 207 #[.string s] w (FCPost s.data.toList w):=by
 go_enter Tryz.func207,Tryz.ntmps207
 go_wp2_with fail
 refine(combs_any _).mono ?_
 rintro e W1 ⟨rfl,hb1,h2⟩
 have hb2:Below w.heap.size w W1:=((Below.refl _ w).alloc nlr _).trans (hb1.mono (by simp))
 have h1:W1.heap[w.heap.size]? = some (.cells #[.string ⟨#[]⟩,.int .i64 0,.nilFunc] 173):=(hb1.block _ (by simp)).trans (heap_alloc_new w _)
 rw[World.size_alloc] at h2
 clear hb1
 go_wp2_with fail
 have hz1:w.heap.size < W1.heap.size:=(Array.getElem?_eq_some_iff.1 h1).1
 have hz2:w.heap.size+1 < W1.heap.size:=(Array.getElem?_eq_some_iff.1 h2).1
 go_loopw [8] (fun i wr=>∃ k:Nat,k≤3∧i = .int .i64 k∧Below W1.heap.size W1 wr∧Hid (∀ j,j < k→Sp.combsL[j]!≠s.data.toList)) (fun i _=>3 - (intOf i).toNat)
 case atStart=>exact⟨0,by omega,rfl,Below.refl _ _,fun j hj=>absurd hj (by omega)⟩
 case round =>
  obtain⟨k,hk,rfl,hb,HK⟩:=hrel
  have hbw:=hb2.trans (hb.mono (by omega))
  have h3:=(hb.block _ hz1).trans h1
  have h4:=(hb.block _ hz2).trans h2
  by_cases hlt:k < 3
  ·obtain⟨x0,x1,x2⟩:=cmbs_cells h4 k hlt
   have hk0:(0:Int)≤(k:Int):=Int.natCast_nonneg _
   have hk1:(k:Int) < (3:Int):=by omega
   obtain⟨nm,HN⟩:∃ nm,Hid (nm=cmNm k):=⟨_,rfl⟩
   obtain⟨nt,HT⟩:∃ nt,Hid (nt=cmNt k):=⟨_,rfl⟩
   obtain⟨fk,HF⟩:∃ fk,Hid (Value.func (.func fk) #[] #[]=cmFn k):=⟨_,rfl⟩
   rw[← uh HN] at x0
   rw[← uh HT] at x1
   rw[← uh HF] at x2
   have hzr:w.heap.size < wr.heap.size:=Nat.lt_of_lt_of_le hz1 hb.size
   have h5:(wr.alloc (.cells #[.string nm,.int .i64 nt,.func (.func fk) #[] #[]] 173)).heap[w.heap.size]? = _:=(((Below.refl wr.heap.size wr).alloc nlr (.cells #[.string nm,.int .i64 nt,.func (.func fk) #[] #[]] 173)).block _ hzr).trans h3
   have hb3:=hbw.alloc (Nat.le_of_lt hzr) (.cells #[.string nm,.int .i64 nt,.func (.func fk) #[] #[]] 173)
   obtain⟨c0,c1,c2,cf⟩:=blk3 h5
   have f0:=cf 0
   have f1:=cf 1
   have f2:=cf 2
   clear cf h1 h2 h3 h4 h5
   by_cases hq:Sp.combsL[k]! = s.data.toList
   ·have HQ:=hde hq
    have g:(nm.toList == s.toList)=true:=by
     rw[uh HN,toL s];exact toList_is hq
    clear hq
    clear hzr
    go_wp2
    refine bodyPost_ret (v := .tuple #[cmbV k,.bool true]) ?_ rfl ⟨((hb3.setCell nlr _).setCell nlr _).setCell nlr _,Or.inl ⟨k,hlt,uh HQ,rfl⟩⟩
    simp[results,Tryz.results207,go_sem,cmbV,c0,c1,c2,← uh HN,← uh HT,← uh HF]
   ·have HQ:=hde hq
    have g:(nm.toList == s.toList)=false:=by
     rw[uh HN,toL s];exact toList_ne hq
    clear hq
    go_wp2
    go_roundw
    case rel=>exact⟨k+1,by omega,by go_num,hb.alloc hb.size _,fun j hj=>if h:j=k then h ▸ uh HQ else uh HK j (by omega)⟩
    case measure=>simp[intOf];omega
  ·obtain rfl:k=3:=by omega
   obtain⟨c0,c1,c2,cf⟩:=blk3 h3
   have f0:=cf 0
   have f1:=cf 1
   have f2:=cf 2
   clear cf h1 h2 h3 h4
   go_wp2
   refine bodyPost_ret (v := .tuple #[noCmb,.bool false]) ?_ rfl ⟨((hbw.setCell nlr _).setCell nlr _).setCell nlr _,Or.inr ⟨?_,rfl⟩⟩
   ·simp[results,Tryz.results207,go_sem,noCmb,c0,c1,c2]
   ·intro hm
    obtain⟨j,hj,e⟩:=List.mem_iff_getElem.1 hm
    refine uh HK j hj ?_
    rw[getElem!_pos Sp.combsL j hj];exact e
end Go.Proofs.YteflnddphpjahaaGreatDoor
