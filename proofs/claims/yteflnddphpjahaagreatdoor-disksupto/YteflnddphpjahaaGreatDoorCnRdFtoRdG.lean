import Derived.Test.YteflnddphpjahaaGreatDoorCnRdE
import Derived.Deep.RegionLaw
import Derived.Deep.AppendLies
set_option linter.unusedVariables false
set_option linter.unusedSimpArgs false
set_option maxRecDepth 100000
set_option maxHeartbeats 16000000
namespace Go.Proofs.YteflnddphpjahaaGreatDoor.Rd
open Go.RowKit
open Sd (Tb)
open Dk (Kept own_kept)
theorem Tryz.info_rstr:(Tryz.prog.info? 9).map (fun i=>(i.zero,i.size,i.bytes))=some (some (.string ⟨#[]⟩),1,16):=by kernel_rfl
def Rk.lst (R:Rk):List ByteArray:=if R.down=true then [] else (tab R.now).map (·.1)
def Rk.lstE (R:Rk):Int:=if R.down=true then 9 else 0
def strs (L:List ByteArray):List Value:=L.map Value.string
theorem rlist_any (D:Nat) (R:Rk) (vf vs vc:Value) (w:World) (h:RAt w D R vf vs vc) (h1:R.safe.length≤100000000) (h2:R.chs.length≤100000000) :
  Calls Tryz.prog 49 #[.pointer (some ⟨D,0,none⟩)] w fun e w'=>∃ v,e = .returned (.tuple #[v,.int .i64 R.lstE])∧w'.ownsRow w.heap.size 9 1 v R.lst.length (strs R.lst)∧Below w.heap.size w w':=by
 have hd:=now_any D R vf vs vc w h h1 h2
 have hlen:R.now.length≤200000000:=by have:=dir_len R R.chs.length;unfold Rk.now;omega
 have hkd:keyed R.now:=h.ok.dir_keyed _
 obtain⟨_,_,_,_,_,c5⟩:=h.cells
 cases hdn:R.down with
 | true =>
  have HL:Hid (R.lst=[]):=by show _=_;unfold Rk.lst;rw[if_pos hdn]
  have HE:Hid (R.lstE=9):=by show _=_;unfold Rk.lstE;rw[if_pos hdn]
  rw[hdn] at c5
  clear hdn h hd
  go_enter Tryz.func49,Tryz.ntmps49
  go_wp2
  rw[uh HL,uh HE]
  exact bodyPost_ret (v := .tuple #[.slice none 0 0,.int .i64 9]) (by simp[results,Tryz.results49,go_sem]) rfl ⟨_,rfl,World.ownsRow_nil _ _ _ _,Below.refl _ _⟩
 | false =>
  have HL:Hid (R.lst=(tab R.now).map (·.1)):=by show _=_;unfold Rk.lst;rw[if_neg (by rw[hdn];decide)]
  have HE:Hid (R.lstE=0):=by show _=_;unfold Rk.lstE;rw[if_neg (by rw[hdn];decide)]
  rw[hdn] at c5
  obtain⟨i0,hti,hz0,hz1,hz2⟩:=info_parts Tryz.info_rstr
  have htl:=tab_len hkd
  rw[uh HL,uh HE]
  obtain⟨L,hL⟩:∃ L,R.now=L:=⟨_,rfl⟩
  rw[hL] at hd hlen hkd htl ⊢
  have HK:=hde hkd
  clear hdn h hL HL HE hkd
  go_enter Tryz.func49,Tryz.ntmps49
  go_wp2_with fail
  refine hd.mono ?_
  rintro e w1 ⟨v1,rfl,ho1,hb1⟩
  obtain⟨p1,cap1,rfl,he1⟩:=ents_of_own ho1
  clear ho1
  go_wp2_with fail
  refine(sorted_any p1 cap1 L w1 he1 (by omega) (uh HK)).mono ?_
  rintro e w2 ⟨v2,rfl,ho2,hb2⟩
  obtain⟨p2,cap2,rfl,he2⟩:=ents_of_own ho2
  have hbw:=hb1.trans (hb2.mono hb1.size)
  clear ho2 he1 hb1 hb2 HK
  go_wp2_with fail
  go_loopw [5,6] (fun v i wr=>∃ k:Nat,k≤(tab L).length∧i = .int .i64 k∧wr.ownsRow w2.heap.size 9 1 v k (strs (((tab L).take k).map (·.1)))∧Below w2.heap.size w2 wr) (fun _ i _=>(tab L).length - (intOf i).toNat)
  case atStart=>exact⟨0,Nat.zero_le _,rfl,World.ownsRow_nil _ _ _ _,Below.refl _ _⟩
  case round =>
   obtain⟨k,hk,rfl,ho,hb⟩:=hrel
   have hB:=hb.size
   by_cases hlt:k < (tab L).length
   ·obtain⟨g,hp,hg,c0,c1⟩:=(he2.below hb) k hlt
    subst hp
    have HS:Hid (strs (((tab L).take (k+1)).map (·.1))=strs (((tab L).take k).map (·.1))++[.string (tab L)[k].1]):=by
     show _=_
     rw[List.take_add_one,List.getElem?_eq_getElem hlt]
     unfold strs
     rw[List.map_append,List.map_append];rfl
    obtain⟨x,hx⟩:∃ x,(tab L)[k]=x:=⟨_,rfl⟩
    rw[hx] at c0 c1 HS
    clear hx
    go_wp2_with (first
     | (at_builtin;go_must (refine wpList_append_own _ rfl (.tmp 20) (.tmp 26) 69 rfl w2.heap.size 9 i0 _ 1 16 Tryz.underlying69 hti hz0 hz1 hz2 rfl (by decide) _ _ _ rfl (ho.alloc _) ⟨wr.heap.size,0,none⟩ 1 1 [.string x.1] rfl rfl ?c1 ?c2 ?c3 ?c4 ?c5 ?_))
     | go_in)
    case c2=>rfl
    case c3=>unfold maxLen;omega
    case c4=>omega
    case c5=>first | omega | (simp;omega)
    intro v3 w3 hl3 hg3 _
    have hnb:=rel_app (ys:=[]) (v':=v3) (by simp;omega) (ho.alloc _) (hb.alloc hB _) hg3
    clear hg3 ho
    go_wp2
    go_roundw
    case rel=>exact⟨k+1,by omega,by go_num,by rw[uh HS,List.map_take];exact hl3,hnb⟩
    case measure=>simp[intOf];omega
   ·obtain rfl:k=(tab L).length:=by omega
    have e:(tab L).take (tab L).length=tab L:=List.take_length
    rw[e] at ho
    go_wp2
    exact bodyPost_ret (v := .tuple #[_,.int .i64 0]) (by simp[results,Tryz.results49,go_sem];rfl) rfl ⟨_,rfl,by rw[List.length_map];exact own_le ho hbw.size,hbw.trans (hb.mono hbw.size)⟩
def Rk.rd (R:Rk) (a:ByteArray):ByteArray:=if R.down=true then e0 else match rget R.now a with
 | none=>e0
 | some i=>(R.fl i).bytes
def Rk.rdE (R:Rk) (a:ByteArray):Int:=if R.down=true then 9 else match rget R.now a with
 | none=>11
 | some i=>0
theorem rread_any (D:Nat) (R:Rk) (vf vs vc:Value) (a:ByteArray) (w:World) (h:RAt w D R vf vs vc) (h1:R.safe.length≤100000000) (h2:R.chs.length≤100000000) :
  Calls Tryz.prog 100 #[.pointer (some ⟨D,0,none⟩),.string a] w fun e w'=>e = .returned (.tuple #[.string (R.rd a),.int .i64 (R.rdE a)])∧Below w.heap.size w w':=by
 have hd:=find_any D R vf vs vc a w h h1 h2
 have HR:=hde h
 have hfile:∀ p ∈ R.now,p.2 < R.files.length:=h.ok.dir_file _
 have hkd:keyed R.now:=h.ok.dir_keyed _
 obtain⟨_,_,_,_,_,c5⟩:=h.cells
 cases hdn:R.down with
 | true =>
  have HL:Hid (R.rd a=e0):=by show _=_;unfold Rk.rd;rw[if_pos hdn]
  have HE:Hid (R.rdE a=9):=by show _=_;unfold Rk.rdE;rw[if_pos hdn]
  rw[hdn] at c5
  clear hdn h hd
  go_enter Tryz.func100,Tryz.ntmps100
  go_wp2
  rw[uh HL,uh HE]
  exact bodyPost_ret (v := .tuple #[.string e0,.int .i64 9]) (by simp[results,Tryz.results100,go_sem,e0]) rfl ⟨rfl,Below.refl _ _⟩
 | false =>
  rw[hdn] at c5
  cases hg:rget R.now a with
  | none =>
   have HL:Hid (R.rd a=e0):=by show _=_;unfold Rk.rd;rw[if_neg (by rw[hdn];decide),hg]
   have HE:Hid (R.rdE a=11):=by show _=_;unfold Rk.rdE;rw[if_neg (by rw[hdn];decide),hg]
   rw[hg] at hd
   rw[uh HL,uh HE]
   clear hdn h hg HL HE hfile
   unfold optN at hd
   go_enter Tryz.func100,Tryz.ntmps100
   go_wp2_with fail
   refine hd.mono ?_
   rintro e w1 ⟨rfl,hb⟩
   go_wp2
   exact bodyPost_ret (v := .tuple #[.string e0,.int .i64 11]) (by simp[results,Tryz.results100,go_sem,e0]) rfl ⟨rfl,hb⟩
  | some i =>
   have HL:Hid (R.rd a=(R.fl i).bytes):=by show _=_;unfold Rk.rd;rw[if_neg (by rw[hdn];decide),hg]
   have HE:Hid (R.rdE a=0):=by show _=_;unfold Rk.rdE;rw[if_neg (by rw[hdn];decide),hg]
   have hif:i < R.files.length:=hfile (a,i) ((rget_mem hkd).1 hg)
   rw[hg] at hd
   rw[uh HL,uh HE]
   clear hdn h hg HL HE hfile
   unfold optN at hd
   go_enter Tryz.func100,Tryz.ntmps100
   go_wp2_with fail
   refine hd.mono ?_
   rintro e w1 ⟨rfl,hb⟩
   have hr:=(uh HR).below hb
   obtain⟨c0,_⟩:=hr.cells
   obtain⟨pf,cf,rfl,hfs⟩:=fls_of_own hr.rf
   obtain⟨gf,rfl,hgf,f0,f1⟩:=hfs i hif
   rw[← fl_at R hif] at f0
   have hi2:(i:Int) < (R.files.length:Int):=by omega
   have hi0:¬ (i:Int) < 0:=by omega
   clear hr hfs f1 hkd
   go_wp2
   exact bodyPost_ret (v := .tuple #[.string (R.fl i).bytes,.int .i64 0]) (by simp[results,Tryz.results100,go_sem]) rfl ⟨rfl,hb⟩
theorem rquota_any (D:Nat) (R:Rk) (vf vs vc:Value) (n:Int) (w:World) (h:RAt w D R vf vs vc) :
  Calls Tryz.prog 88 #[.pointer (some ⟨D,0,none⟩),.int .i64 n] w fun e w'=>e = .returned (.tuple #[])∧RTo w w' D vf vs vc { R with limit:=n } vf vs vc:=by
 obtain⟨_,_,_,c3,_,_⟩:=h.cells
 have f3:=h.fz 3
 have HR:=hde h
 have HK:=hde (show Kept w (w.setCell ⟨D,3,none⟩ (.int .i64 n)) (fun k=>¬ rOwn D vf vs vc k) from (Kept.refl w _).setCell (fun hk=>hk (Or.inl rfl)) _)
 clear h
 go_enter Tryz.func88,Tryz.ntmps88
 go_wp2
 exact bodyPost_end (results_none rfl _ _ _) rfl ⟨rfl,(uh HR).set (R':={ R with limit:=n }) rfl rfl rfl rfl,uh HK,fun k hk=>Or.inl hk⟩
theorem rarm_any (D:Nat) (R:Rk) (vf vs vc:Value) (n:Int) (w:World) (h:RAt w D R vf vs vc) :
  Calls Tryz.prog 90 #[.pointer (some ⟨D,0,none⟩),.int .i64 n] w fun e w'=>e = .returned (.tuple #[])∧RTo w w' D vf vs vc (R.arm n) vf vs vc:=by
 obtain⟨_,_,_,_,c4,_⟩:=h.cells
 have f4:=h.fz 4
 have HR:=hde h
 have hk:∀ W u,Kept w W (fun k=>¬ rOwn D vf vs vc k)→Kept w (W.setCell ⟨D,4,none⟩ u) (fun k=>¬ rOwn D vf vs vc k):=fun W u hW=>hW.setCell (fun hk=>hk (Or.inl rfl)) _
 have HK:=hde hk
 clear h hk
 by_cases hn:n < 0
 ·have HA:Hid (R.arm n={ R with left := -1 }):=by show _=_;unfold Rk.arm;rw[if_pos hn]
  rw[uh HA]
  go_enter Tryz.func90,Tryz.ntmps90
  go_wp2
  have h1:=(uh HR).set (j:=4) (u := .int .i64 n) (R':={ R with left:=n }) rfl rfl rfl rfl
  have h2:=h1.set (j:=4) (u := .int .i64 (-1)) (R':={ R with left := -1 }) rfl rfl rfl rfl
  first
   | exact bodyPost_end (results_none rfl _ _ _) rfl ⟨rfl,h2,(uh HK) _ _ ((uh HK) _ _ (Kept.refl w _)),fun k hk=>Or.inl hk⟩
   | exact bodyPost_end (results_none rfl _ _ _) rfl ⟨rfl,(uh HR).set (j:=4) (u := .int .i64 (-1)) (R':={ R with left := -1 }) rfl rfl rfl rfl,(uh HK) _ _ (Kept.refl w _),fun k hk=>Or.inl hk⟩
 ·have HA:Hid (R.arm n={ R with left:=n }):=by show _=_;unfold Rk.arm;rw[if_neg hn]
  rw[uh HA]
  go_enter Tryz.func90,Tryz.ntmps90
  go_wp2
  exact bodyPost_end (results_none rfl _ _ _) rfl ⟨rfl,(uh HR).set (j:=4) (u := .int .i64 n) (R':={ R with left:=n }) rfl rfl rfl rfl,(uh HK) _ _ (Kept.refl w _),fun k hk=>Or.inl hk⟩
theorem rnew_ok (n:Int):(Rk.mk [] [] [] n (-1) false).Ok:=⟨List.Pairwise.nil,fun p h=>(by cases h),fun p h=>(by cases h),fun p h=>(by cases h),fun p h=>(by cases h)⟩
theorem rnew_any (n:Int) (w:World):Calls Tryz.prog 77 #[.int .i64 n] w fun e w'=>e = .returned (.pointer (some ⟨w.heap.size,0,none⟩))∧RAt w' w.heap.size ⟨[],[],[],n,-1,false⟩ (.slice none 0 0) (.slice none 0 0) (.slice none 0 0)∧Below w.heap.size w w':=by
 go_enter Tryz.func77,Tryz.ntmps77
 go_wp2
 go_ret
 refine⟨rfl,⟨heap_alloc_new w _,World.ownsRow_nil _ _ _ _,World.ownsRow_nil _ _ _ _,World.ownsRow_nil _ _ _ _,rnew_ok n⟩,(Below.refl _ w).alloc nlr _⟩
theorem own_setIn {w:World} {B e size n g cap j:Nat} {xs:List Value} (h:w.ownsRow B e size (.slice (some ⟨g,0,none⟩) n cap) n xs) (u:Value):(w.setCell ⟨g,j,none⟩ u).ownsRow B e size (.slice (some ⟨g,0,none⟩) n cap) n (xs.set j u):=by
 obtain⟨h1,h2⟩:=h
 refine⟨by rw[List.length_set];exact h1,?_⟩
 rcases h2 with ⟨h2,_⟩ | ⟨g',cap',cur,hv,hB,hg,hnc,hcm,hcs,ht⟩
 ·cases h2
 ·injection hv with q1 q2 q3
  injection q1 with q1
  injection q1 with q1
  subst q1 q3
  refine .inr ⟨g,cap,cur.setIfInBounds j u,rfl,hB,heap_setCell_same w g j _ _ u hg,hnc,hcm,by rw[Array.size_setIfInBounds];exact hcs,?_⟩
  rw[Array.toList_setIfInBounds,List.take_set,ht]
theorem fl_set0:∀ (F:List Fl) (i:Nat) (h:i < F.length) (b:ByteArray),flCells (F.set i ⟨b,F[i].safe⟩)=(flCells F).set (i * 2) (.string b)
 | [],i,h,_=>by simp at h
 | f :: F,0,_,b=>rfl
 | f :: F,i+1,h,b=>by
  have hi:i < F.length:=by simpa using h
  have:=fl_set0 F i hi b
  have e:(i+1) * 2=i * 2+2:=by omega
  show [Value.string f.bytes,.int .i64 (f.safe:Int)]++flCells (F.set i ⟨b,F[i].safe⟩)=([Value.string f.bytes,.int .i64 (f.safe:Int)]++flCells F).set ((i+1) * 2) (.string b)
  rw[this,e];rfl
theorem fl_set1:∀ (F:List Fl) (i:Nat) (h:i < F.length) (n:Nat),flCells (F.set i ⟨F[i].bytes,n⟩)=(flCells F).set (i * 2+1) (.int .i64 (n:Int))
 | [],i,h,_=>by simp at h
 | f :: F,0,_,b=>rfl
 | f :: F,i+1,h,b=>by
  have hi:i < F.length:=by simpa using h
  have:=fl_set1 F i hi b
  have e:(i+1) * 2+1=i * 2+1+2:=by omega
  show [Value.string f.bytes,.int .i64 (f.safe:Int)]++flCells (F.set i ⟨F[i].bytes,b⟩)=([Value.string f.bytes,.int .i64 (f.safe:Int)]++flCells F).set ((i+1) * 2+1) (.int .i64 (b:Int))
  rw[this,e];rfl
theorem setF_ok {R:Rk} (h:R.Ok) (i:Nat) (f:Fl) (hf:f.safe≤f.bytes.size):(R.setF i f).Ok:=by
 obtain⟨a,b,c,d,e⟩:=h
 have hl:(R.setF i f).files.length=R.files.length:=List.length_set
 refine⟨a,b,fun p hp=>by rw[hl];exact c p hp,fun x hx=>by rw[hl];exact d x hx,fun x hx=>?_⟩
 rcases List.mem_or_eq_of_mem_set hx with h1 | h1
 ·exact e x h1
 ·rw[h1];exact hf
theorem RAt.setF {w:World} {D:Nat} {R:Rk} {vf vs vc:Value} (h:RAt w D R vf vs vc) {i g cap j:Nat} {u:Value} {f:Fl} (hv:vf = .slice (some ⟨g,0,none⟩) R.files.length cap) (hi:i < R.files.length) (hc:flCells (R.files.set i f)=(flCells R.files).set j u) (hf:f.safe≤f.bytes.size):RTo w (w.setCell ⟨g,j,none⟩ u) D vf vs vc (R.setF i f) vf vs vc:=by
 have hgo:vf.ownBlock=some g:=by rw[hv];rfl
 obtain⟨cf,hcf,_⟩:=own_blk h.rf hgo
 have hgD:D≠g:=fun e=>blk_ne hcf h.blk (by decide) e.symm
 refine⟨⟨?_,?_,?_,?_,setF_ok h.ok i f hf⟩,(Kept.refl w _).setCell (fun hk=>hk (Or.inr (Or.inl hgo))) _,fun k hk=>Or.inl hk⟩
 ·rw[Below.heap_setCell w ⟨g,j,none⟩ u D hgD];exact h.blk
 ·show (w.setCell _ u).ownsRow 0 _ 2 vf (R.files.set i f).length (flCells (R.files.set i f))
  rw[List.length_set,hc]
  have h1:=h.rf
  rw[hv] at h1 ⊢
  exact own_setIn h1 u
 ·refine ownsRow_setCell_other h.rs (fun e=>?_) _
  obtain⟨c,hc2,_⟩:=own_blk h.rs e
  exact blk_ne hc2 hcf (by decide) rfl
 ·refine ownsRow_setCell_other h.rc (fun e=>?_) _
  obtain⟨c,hc2,_⟩:=own_blk h.rc e
  exact blk_ne hc2 hcf (by decide) rfl
def opV (k:Int) (a b:ByteArray):Value := .agg #[.int .i64 k,.string a,.string b]
def TcPost (w:World) (D:Nat) (vf vs vc:Value) (r:Int × Rk) (e:Ending) (w':World):Prop:=e = .returned (.int .i64 r.1)∧∃ vf' vs' vc',RTo w w' D vf vs vc r.2 vf' vs' vc'
def Rk.appF (Q:Rk) (i:Nat) (t:ByteArray):Int × Rk:=if Q.limit < (Q.use Q.now:Int)+t.size then (12,Q) else (0,Q.setF i ⟨(Q.fl i).bytes++t,(Q.fl i).safe⟩)
theorem RTo.refl {w:World} {D:Nat} {R:Rk} {vf vs vc:Value} (h:RAt w D R vf vs vc):RTo w w D vf vs vc R vf vs vc:=RTo.below h (Below.refl _ _)
theorem touch_append (D:Nat) (R:Rk) (vf vs vc:Value) (i:Nat) (a t:ByteArray) (w:World) (h:RAt w D R vf vs vc) (h1:R.safe.length≤100000000) (h2:R.chs.length≤100000000) (hu:R.use R.now≤1152921504606846976) (hi:i < R.files.length) (ht:t.size≤1152921504606846976) (hb:(R.fl i).bytes.size≤1152921504606846976) :
  Calls Tryz.prog 227 #[.pointer (some ⟨D,0,none⟩),opV 2 a t,.int .i64 (i:Int)] w (TcPost w D vf vs vc (R.appF i t)):=by
 have hu1:=fun o=>used_any D R vf vs vc (w.alloc o) (h.below ((Below.refl _ w).alloc nlr o)) h1 h2 hu
 have HR:=hde h
 have hD:=blk_lt h.blk
 clear h
 unfold opV
 go_enter Tryz.func227,Tryz.ntmps227
 go_wp2_with fail
 refine(hu1 _).mono ?_
 rintro e w1 ⟨rfl,hb1⟩
 clear hu1
 have hbx:w1.heap[w.heap.size]? = some (.cells #[.int .i64 2,.string a,.string t] 292 (0,0)):=(hb1.block w.heap.size (by simp)).trans (heap_alloc_new w _)
 have hbw:Below w.heap.size w w1:=((Below.refl _ w).alloc nlr _).trans (hb1.mono (by simp))
 have x0:w1.cell? ⟨w.heap.size,0,none⟩=some (.int .i64 2):=by rw[cell_of_row w1 _ 0 _ _ _ hbx];rfl
 have x2:w1.cell? ⟨w.heap.size,2,none⟩=some (.string t):=by rw[cell_of_row w1 _ 2 _ _ _ hbx];rfl
 have hr:=(uh HR).below hbw
 obtain⟨c0,_,_,c3,_⟩:=hr.cells
 obtain⟨u0,hu0⟩:∃ u0,R.use R.now=u0:=⟨_,rfl⟩
 rw[hu0] at hu ⊢
 have hw:IntKind.i64.wrap ((u0:Int)+(t.size:Int))=(u0:Int)+(t.size:Int):=by rw[IntKind.wrap_i64];omega
 have HR1:=hde hr
 have HBW:=hde hbw
 have HU0:=hde hu0
 clear hb1 hbx hr hbw hu0
 by_cases hfull:R.limit < (u0:Int)+(t.size:Int)
 ·have HF:Hid (R.appF i t=(12,R)):=by show _=_;unfold Rk.appF;rw[uh HU0,if_pos hfull]
  have hgt:decide ((u0:Int)+(t.size:Int) > R.limit)=true:=decide_eq_true hfull
  go_wp2_with fail
  go_quiet (fail)
  go_wp2
  go_ret
  exact⟨by rw[uh HF];rfl,vf,vs,vc,by rw[uh HF];exact RTo.below (uh HR) (drN (uh HBW) _)⟩
 ·have HF:Hid (R.appF i t=(0,R.setF i ⟨(R.fl i).bytes++t,(R.fl i).safe⟩)):=by show _=_;unfold Rk.appF;rw[uh HU0,if_neg hfull]
  have hgt:decide ((u0:Int)+(t.size:Int) > R.limit)=false:=decide_eq_false hfull
  go_wp2_with fail
  go_quiet (fail)
  obtain⟨pf,cf,hvf,hfs⟩:=fls_of_own (uh HR1).rf
  obtain⟨gf,hpf,hgf,f0,f1⟩:=hfs i hi
  subst hpf
  subst hvf
  have hfl:=fl_at R hi
  rw[← hfl] at f0
  have hi2:(i:Int) < (R.files.length:Int):=by omega
  have hi0:¬ (i:Int) < 0:=by omega
  have fz:w1.frozen? ⟨gf,i * 2,none⟩=false:=by
   obtain⟨cc,hcc,_⟩:=own_blk (uh HR1).rf (g:=gf) rfl
   simp[World.frozen?,hcc]
  have hsz:¬ 9223372036854775807 < (R.fl i).bytes.size+t.size:=by omega
  have HFL:=hde hfl
  clear hfl hfs f1
  go_wp2_with fail
  go_region
  go_wp2
  go_ret
  have hcut:(R.fl i).safe≤((R.fl i).bytes++t).size:=by
   have:=(uh HR).ok.cut (R.fl i) (by rw[uh HFL];exact List.getElem_mem _)
   rw[ByteArray.size_append];omega
  exact⟨by rw[uh HF];rfl,_,_,_,by rw[uh HF];exact(RTo.below (uh HR) (drN (uh HBW) _)).trans (((uh HR).below (drN (uh HBW) _)).setF (i:=i) rfl hi (by have:=fl_set0 R.files i hi ((R.fl i).bytes++t);rw[← uh HFL] at this;exact this) hcut)⟩
theorem touch_sync (D:Nat) (R:Rk) (vf vs vc:Value) (i:Nat) (a t:ByteArray) (w:World) (h:RAt w D R vf vs vc) (hi:i < R.files.length) :
  Calls Tryz.prog 227 #[.pointer (some ⟨D,0,none⟩),opV 3 a t,.int .i64 (i:Int)] w (TcPost w D vf vs vc (0,R.setF i ⟨(R.fl i).bytes,(R.fl i).bytes.size⟩)):=by
 have HR:=hde h
 have hr:=h.below ((Below.refl _ w).alloc nlr (.cells #[.int .i64 3,.string a,.string t] 292))
 obtain⟨c0,_⟩:=hr.cells
 obtain⟨pf,cf,hvf,hfs⟩:=fls_of_own hr.rf
 obtain⟨gf,hpf,hgf,f0,f1⟩:=hfs i hi
 subst hpf
 subst hvf
 have hfl:=fl_at R hi
 rw[← hfl] at f0
 have hi2:(i:Int) < (R.files.length:Int):=by omega
 have hi0:¬ (i:Int) < 0:=by omega
 have fz:(w.alloc (.cells #[.int .i64 3,.string a,.string t] 292)).frozen? ⟨gf,i * 2+1,none⟩=false:=by
  obtain⟨cc,hcc,_⟩:=own_blk hr.rf (g:=gf) rfl
  simp only[World.frozen?,hcc];rfl
 have HFL:=hde hfl
 clear hfl hfs hr h
 unfold opV
 go_enter Tryz.func227,Tryz.ntmps227
 go_wp2_with fail
 go_region
 go_wp2
 go_ret
 have hbw:∀ n,Below w.heap.size w ((w.alloc (.cells #[.int .i64 3,.string a,.string t] 292)).drewN n):=fun n=>drN ((Below.refl _ w).alloc nlr _) n
 exact⟨rfl,_,_,_,(RTo.below (uh HR) (hbw 1)).trans (((uh HR).below (hbw 1)).setF (i:=i) rfl hi (by have:=fl_set1 R.files i hi (R.fl i).bytes.size;rw[← uh HFL] at this;exact this) nlr)⟩
theorem Tryz.info_rch:(Tryz.prog.info? 355).map (fun i=>(i.zero,i.size,i.bytes))=some (some (.agg #[.string ⟨#[]⟩,.string ⟨#[]⟩,.int .i64 0]),3,40):=by kernel_rfl
theorem ch_snoc (L:List Ch) (c:Ch):chCells (L++[c])=chCells L++[.string c.goes,.string c.comes,.int .i64 (c.file:Int)]:=by simp[chCells]
theorem chs_ok {R:Rk} (h:R.Ok) (c:Ch) (hc:c.file < R.files.length∨c.comes=e0):({ R with chs:=R.chs++[c] }:Rk).Ok:=by
 obtain⟨a,b,s,d,e⟩:=h
 refine⟨a,b,s,fun x hx=>?_,e⟩
 rcases List.mem_append.1 hx with h1 | h1
 ·exact d x h1
 ·rw[List.mem_singleton.1 h1];exact hc
theorem RAt.snoc {w w2:World} {D:Nat} {R:Rk} {vf vs vc:Value} (h:RAt w D R vf vs vc) (c:Ch) (hc:c.file < R.files.length∨c.comes=e0) {v':Value} (hown:w2.ownsRow 0 355 3 v' (R.chs.length+1) (chCells R.chs++[.string c.goes,.string c.comes,.int .i64 (c.file:Int)])) (hg:w.grownBy w2 vc.ownBlock) (hnew:∀ k,v'.ownBlock=some k→vc.ownBlock=some k∨w.heap.size≤k) :
  RTo w (w2.setCell ⟨D,2,none⟩ v') D vf vs vc { R with chs:=R.chs++[c] } vf vs v':=by
 have hne:some D≠vc.ownBlock:=fun e=>by
  obtain⟨c',hc',_⟩:=own_blk h.rc e.symm
  exact blk_ne hc' h.blk (by decide) rfl
 have hD:=blk_lt h.blk
 have hDb:w2.heap[D]? = some (.cells (rkCells R vf vs vc) 209 (0,0)):=(hg.block D hD hne).trans h.blk
 have hk0:Kept w w2 (fun k=>vc.ownBlock≠some k):=Kept.grown hg (fun k h=>h)
 have oth:∀ {e n:Nat} {v:Value} {xs:List Value} {s:Nat},w.ownsRow 0 e s v n xs→e≠355→e≠209→(w2.setCell ⟨D,2,none⟩ v').ownsRow 0 e s v n xs:=fun {e n v xs s} ho h1 h2=>by
  refine ownsRow_setCell_other (own_kept ho hk0 (fun g hg e2=>?_)) (fun e2=>?_) _
  ·obtain⟨x,hx,_⟩:=own_blk ho hg
   obtain⟨y,hy,_⟩:=own_blk h.rc e2
   exact blk_ne hx hy h1 rfl
  ·obtain⟨x,hx,_⟩:=own_blk ho e2
   exact blk_ne hx h.blk h2 rfl
 refine⟨⟨?_,oth h.rf (by decide) (by decide),oth h.rs (by decide) (by decide),?_,chs_ok h.ok c hc⟩,?_,fun k hk=>?_⟩
 ·rw[heap_setCell_same w2 D 2 _ _ _ hDb];rfl
 ·show (w2.setCell ⟨D,2,none⟩ v').ownsRow 0 _ 3 v' (R.chs++[c]).length (chCells (R.chs++[c]))
  rw[ch_snoc,List.length_append]
  refine ownsRow_setCell_other hown (fun e2=>?_) _
  obtain⟨x,hx,_⟩:=own_blk hown e2
  exact blk_ne hx hDb (by decide) rfl
 ·exact(hk0.mono (fun k _ hk e=>hk (Or.inr (Or.inr (Or.inr e))))).setCell (fun hk=>hk (Or.inl rfl)) _
 ·rcases hk with e | e | e | e
  ·exact Or.inl (Or.inl e)
  ·exact Or.inl (Or.inr (Or.inl e))
  ·exact Or.inl (Or.inr (Or.inr (Or.inl e)))
  ·rcases hnew k e with e | e
   ·exact Or.inl (Or.inr (Or.inr (Or.inr e)))
   ·exact Or.inr e
end Go.Proofs.YteflnddphpjahaaGreatDoor.Rd
